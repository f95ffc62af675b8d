import PyProof.Rows.All
import Wide.All
import OpenK.AllK
import Wide.FinOn
import Lean
import PyProof.EqAt
import PyProof.EqKinds
import PyProof.TupleCall
import PyProof.IsiNone
import PyProof.NeKinds
import PyProof.MaxThree
import PyProof.Rows.SetFrom
import PyProof.WalksMore
import PyProof.CallStr
import KE.KRevIter
import PySem.Challenge.RW_mowfloor_k32_bars_of_small_floors
set_option maxHeartbeats 4000000
set_option Elab.async false
set_option compiler.extract_closed false
open List (range range')
open Nat (beq)
noncomputable section
local macro_rules|`(∅)=>`(by decide)
local macro_rules|`(⇑$e)=>`(by simpa using $e)
local macro_rules|`(↥$_)=>`(by simp)
local macro_rules|`(tactic|let $p:term:=$e)=>do
 let q:=p.raw
 let X (s:Lean.Syntax):=s.isOfKind ``Lean.Parser.Term.explicit
 let I (s:String):=Lean.mkIdent (.mkSimple s)
 let l:=(if X q then q[1] else q)[1].getSepArgs
 let n:=l.size
 let j:=if X q then 0 else ((l.findIdx? X).map (·+1)).getD 99
 let mut b:Array Lean.Ident:=#[]
 let mut t:Array (Lean.TSyntax `tactic):=#[]
 let w:=I "ζ"
 let E:=e.raw
 let u:=E.getId
 let c:=j<99&&E.isIdent&&l.any fun s=>s.getId==u||s[1].getId==u
 let h:=I "ξ"
 let u:=u.toString
 let u:=if u.startsWith "ζ" then u else "ζ"
 let d:Lean.Term:=if c then h else e
 let r ←if c then `(tactic|(revert $(⟨e⟩):ident;intro $h:ident)) else `(tactic|skip)
 if j<99&&E.isIdent then t:=t.push (←`(tactic|try clear $(⟨d⟩):ident))
 for i in [0:n] do
  let s:=if i+1==j then l[i]![1] else l[i]!
  let z:=I s!"{u}{i}"
  if s.isIdent&&(j==99||s.getId != `rfl) then b:=b.push ⟨s⟩
  else
   b:=b.push z
   if s.isIdent then t:=t.push (←`(tactic|subst $z))
   else if !s.isOfKind ``Lean.Parser.Term.hole then t:=t.push (←`(tactic|let $(⟨s⟩):term:=$z))
 let A:=b.extract j n
 let B:=b.extract 0 j
 let k:=I s!"xE{j}"
 if j==99 then `(tactic|(obtain ⟨$[$b:ident],*⟩:=$e;$t;*)) else if j==0 then `(tactic|($r;refine $(I s!"xA{n}") ($d :) fun $b* =>?_;$t;*)) else if j+1==n then `(tactic|($r;refine $k ($d :) fun $b* =>?_;$t;*)) else `(tactic|($r;refine $k ($d :) fun $B* $w=>?_;refine $(I s!"xA{n-j}") $w fun $A* =>?_;clear $w;$t;*))
local macro_rules|`(command|def $i:declId $s:optDeclSig:=$v)=>if v.raw.isOfKind ``Lean.Parser.Term.paren then `(command|noncomputable def $i $s:optDeclSig:=$v) else (·.raw.rewriteBottomUp (·.setInfo .none))<$>`(command|theorem $i $(⟨.node .none ``Lean.Parser.Command.declSig #[s.raw[0],s.raw[1][0]]⟩):declSig:=$v)|`(command|def $i:declId $s:optDeclSig $v:matchAlts)=>`(command|noncomputable def $i $s:optDeclSig $v:matchAlts)|`(command|@[simp] def $i:declId $s:optDeclSig:=$v)=>`(command|@[simp] noncomputable def $i $s:optDeclSig:=$v)|`(command|@[simp] def $i:declId $s:optDeclSig $v:matchAlts)=>`(command|@[simp] noncomputable def $i $s:optDeclSig $v:matchAlts)|`(command|abbrev $i:declId $s:optDeclSig:=$v)=>`(command|noncomputable abbrev $i $s:optDeclSig:=$v)
local macro_rules|`(⋯)=>`(by lia)
open PySem renaming wpAny_bind->av,wpAny_pure->aS,wpAny_holding->fc,wpAny_newObj_type->hJ,wpAny_seqItems->hj,wpAny_call_entry->iN,wpAny_callSpecial?_slot->lW,codeAny_builtin->iQ,wpAny_field->hl,wpAny_mono->gQ,plainId_quiet->jv,wpAny_truthy_bool->lx,wpAny_typeNameOfWhole_keyiter->tP,wpAny_forIn_list->m_,wpAny_rule->iJ,wpAny_setField_rec->oV,wpAny_specialOf->nA,wpAny_passesOwn->mY,wpAny_Call_Name_kw->p3,wpAny_pyIter_list->rr,wpAny_setState_of->pU,wpAny_letGo->mZ,wpAny_tryCatch->pG,builtinLookup_eq_fast->x3,wpAny_isInstance->sG,wpAny_attempt->pS,wpAny_updateSeq_pair->xX,wpAny_execs_nil->t2,codeAny_mono->q0,wpAny_setField->uk,wpAny_dictEntries->xv,wpAny_of_eq->qe,wpAny_standAt->sU,wpAny_onRaise->tv,noFill_tuple_add->wM,wpAny_pyNext_list_item->CD,call_meets->qS,richCompare_meets_room->zZ,wpAny_dictEpoch->vK,typeLookup_type->uO,wpAny_updateSeq->xw,codeAny_of_tree->vg,wpAny_pyNext_list_end->CQ,wpAny_notOrdered_dict->Dc,wpAny_isOneOf_keyiter->CC,seqIndex_of->r7,isSubtype_type->xQ,seq_tuple_add->wF,wpAny_newList->yv,wpAny_dictSet_heap->C0,eqIsQuiet_byValue->DY,wpAny_assign_Name->Bg,concat_meets->yg,wpAny_sequenceKey->CA,seqIndex_neg->x2,slot_list_getitem->D_,list_append->BU,wpAny_storeSet_of->E1,wpAny_pyHash_int->BS,wpAny_pyHash_str->Du,wpAny_execs_cons->B7,wpAny_pyIter_zip->BX,sizeLine_eq->wO,wpAny_Name->x8,wpAny_fieldsOf->CT,isSubtype_stop->DN,wpAny_newTuple->B9,callType_codes->Dh,wpAny_runValue->yK,evalPart_none->Bx,call_list_seq->FN,wpAny_handled->zP,intBits_le_64->Be
open Option renaming bind_eq_some_iff->bG,map_eq_some_iff->cw,bind_some->ll,map_some->mr,isSome_map->tN,getD_some->sN,isSome_iff_exists->zd,getD_none->D0
open List renaming append_assoc->bA,length_map->bj,getD_eq_getElem?_getD->cx,mem_singleton->cK,size_toArray->cB,perm_append_comm->c6,append_nil->cC,getElem?_eq_getElem->eb,mem_append_right->dR,mem_cons->cu,mem_append_left->dO,length_append->dx,nodup_append->dk,map_cons->cH,getElem?_eq_some_iff->e9,pairwise_singleton->eY,mem_map->cO,mem_append->dG,take_append_drop->e6,length_singleton->fk,mem_of_getElem?->fe,length_cons->ey,getElem?_map->eH,getElem?_append_left->iA,map_append->fb,length_take->fG,mem_range->e0,drop_eq_getElem_cons->iE,getElem?_append_right->jw,pairwise_cons->gH,length_drop->gc,length_range->hq,mem_filter->hS,lookup_cons->h7,mem_cons_of_mem->jX,nodup_nil->gY,map_map->gz,nodup_cons->ic,all_eq_true->iC,nodup_iff_pairwise_ne->mS,mem_iff_getElem->kL,eq_nil_of_length_eq_zero->oc,pairwise_iff_getElem->mm,mem_cons_self->k1,mem_of_mem_drop->l_,find?_cons->jC,length_nil->jg,drop_of_length_le->mR,map_drop->iP,map_take->iU,getElem?_drop->lB,getElem?_set_ne->mM,mem_of_mem_take->m7,not_mem_nil->kq,drop_zero->kh,pairwise_map->lG,getElem?_take->mK,foldl_cons->lb,map_congr_left->nP,take_of_length_le->qM,mem_nil_iff->mJ,getElem?_zip_eq_some->t7,getElem_drop->oG,ext_getElem?->oe,any_cons->mc,eraseIdxIfInBounds_toArray->wg,filterMap_cons->pE,length_pos_iff->ql,drop_drop->mx,take_length->oO,getElem?_set_self->tX,getElem?_eq_none->r_,length_filter_le->t5,take_sublist->pf,flatMap_cons->pL,getElem?_of_mem->tS,perm_ext_iff_of_nodup->vz,cons_append->qN,any_eq_true->qa,length_reverse->rJ,mem_filterMap->tp,getElem?_cons_zero->x9,getElem?_cons_succ->vl,getElem_take->tT,drop_take->pV,drop_sublist->uw,take_succ_eq_append_getElem->Cx,length_pos_of_mem->xA,pairwise_lt_range->xg,getElem?_toArray->yd,nodup_range->sV,getElem_mem->sE,any_toArray->tj,getLast?_concat->wD,forIn_cons->sj,take_take->sJ,take_zero->rQ,setIfInBounds_toArray->BQ,zip_cons_cons->wK,ne_nil_of_mem->uW,getLast?_eq_getElem?->BE,reverse_cons->v3,foldl_append->yw,drop_length->xn,zipIdx_cons->yF,length_eq_zero_iff->y0,cons_ne_nil->xd,of_mem_zip->xf,length_set->wk,nil_append->uX,length_zip->xW,range_succ->yz,dropLast_eq_take->DK,countP_le_length->DL,pairwise_append->zj,extract_toArray->Fl,map_id->rU,filter_eq_self->D7,mem_map_of_mem->Bc,reverse_append->E2,zip_nil_right->EA,all_map->ya,getElem?_set->zA,set_set->yu,any_map->yG,getElem_inj->Ft,map_toArray->yZ,ext_getElem->D3,getElem_map->Dv,filter_cons->zt,countP_cons->Fd,mem_flatMap->yT,zipIdx_nil->Fw,zip_append->D9,forIn_nil->Fz,set_comm->zG
open PySem.Heap renaming get?_push_of_some->b6,get?_push_size->c_,lt_size->b1,get?_update_other->j9,get?_update_self->oK,size_push->my,get?_none_of_le->u4
open Nat renaming le_refl->a5,ne_of_lt->c1,lt_of_lt_of_le->e5,le_trans->eG,lt_or_ge->e4,zero_le->fo,le_of_ble_eq_true->nc,le_add_right->l8,lt_irrefl->jU,lt_trichotomy->mu,lt_succ_self->oC,min_eq_left->n8,le_of_lt_succ->pg,le_of_lt->mj,ne_of_gt->ng,add_lt_add_iff_right->w9,lt_of_le_of_lt->r5,lt_trans->o8,add_assoc->qI,not_lt_zero->ui,eq_zero_or_pos->vd,lt_add_of_pos_right->EV,sub_self->ur,eq_of_beq_eq_true->CJ,not_lt->ux,succ_pos->w5,lt_succ_of_le->CY,min_eq_right->Es,le_zero->vQ,add_zero->DA,add_comm->Cu,min_self->zp,sub_zero->DQ,le_succ->C1,mod_lt->y7
open PySem.W renaming kasC_pure->a_,kasC_bind->bb,mg_none_of->g9,kasC_range->fs,kasC_modify->kg,mg_of->lq,kasC_get->jx,kasC_lift->mw,cellsFrom_some->Fi,kat_item->s6,kas_swaps_map->zV
open Bool renaming and_eq_true->cI,false_ne_true->dv,false_eq_true->gu,not_eq_true'->ks,not_true->nI,eq_iff_iff->p0,or_eq_true->xb,false_or->BF,and_true->BP,true_bne->BY,true_and->BA,true_or->z1
open Array renaming length_toList->dp,getElem?_toList->eE,getElem?_eq_getElem->mA,getElem?_eq_some_iff->oN,ext'->jW,forIn_toList->sZ,toList_filterMap->wm,getD_eq_getD_getElem?->Al,perm_iff_toList_perm->Df,getElem_toList->As,size_map->vU,mem_toList_iff->Ec,toArray_toList->D2,toList_push->FH
open List.Perm renaming append_left->dT,append_right->e8,map->vt,of_eq->Cc,eq_of_pairwise->Io,cons_inv->Hb
open Classical renaming byContradiction->k7
open PySem.Around renaming under_plainId->je
open PySem.PassesOwn renaming never->hn
open PyProof.Rows renaming slot_tuple_getitem->n5,callWith_type1->n6,callWith_builtin1->CZ,subscriptTail_builtinR->Cj,entry_tuple_getitem->zu,args_tuple_getitem->Ee,get?_update_seq->zC,entry_list_sort->Fj,slicePart_none->z9,elem'_eq->uB,slot_list_sort->Ce,args_list_sort->BL,tupleItemsOf_->zB,listUpdate_at->zK,plain_sorted->A7,entry_sorted->Fy,args_sorted1->zg,lt_int->Hz,gt_int->F4
open PySem.F renaming plainAttrs_list->mF,slot_dict_keyiterator_next->pF,called_set->l2,slot_list_append->ry,type_list_append->qb,slot_tuple_iterator_next->ta,slot_tuple_hash->rd,args_tuple_add_2->wZ,slot_list_getattribute->u_,entry_tuple_add->xr,slot_tuple_add->xa,args_dict_keyiterator_next_1->A5,entry_dict_keyiterator_next->EJ,args_tuple_iterator_next_1->Ai,slot_zip_next->r3,entry_tuple_iterator_next->BM,plain_set_new->B2,slot_list_pop->zf,type_list_pop->Bn,args_list_append_2->Eh,called_tuple->xZ,entry_list_append->AU,slot_list_append->Cw,args_zip_next_1->Dj,plain_list_iadd->DR,plain_tuple_new->C6,entry_list_pop->B_,slot_dict_iter->yU,entry_zip_next->Ck,slot_list_pop->yQ
open Int renaming emod_lt_of_pos->kv,emod_nonneg->jQ,le_refl->jJ,toNat_natCast->q_,le_trans->xH,ediv_nonneg->Fg,not_lt->wo,mul_le_mul->Ez,mul_one->E8,mul_pos->zv
open PySem.Heap.SameBut renaming update->oo
open PyProof.Rows.F renaming plain_set_update_loop->wV,entry_set_update_loop->A0
open Ne renaming symm->fP
open PySem.Obj renaming data_mapFields->tI,isFreed_of_fields->AW,cls_mapFields->y5
open PySem.Calls renaming Name_function_global->Ak,spliced_cons->ym,call_function_entry->A1,spliced_nil->wq,callWith_builtin->z3
open PySem.AutoSeq1 renaming sub_tuple_tuple->Ef
open PySem.SetTable renaming toList_insertAt->Dy
open List.Pairwise renaming sublist->ES,filterMap->NI,filter->PL,imp₂->M7,map->O9
open PySem.SeqAt.EqAt renaming int_str->EB,str_int->BG,none_tuple->N5,bool_tuple->KH,tuple_none->F5,tuple_bool->NN,none_bool->K_,bool_none->N_,bool_bool->Js,int_tuple->Gk,str_tuple->HW,tuple_int->KJ,tuple_str->NA,none_int->MK,none_str->Nz,bool_int->Kk,bool_str->Hu,int_none->MZ,int_bool->JM,str_none->Pu,str_bool->M4,int_int->Lw,str_str->ID,of_refs->Li
open PySem.SeqAt.RcAt renaming tuples->z5,lists_lengths->G_,none_tuple->Pw,bool_tuple->Oi,tuple_none->HM,tuple_bool->Hg,none_none->Jn,none_bool->IH,bool_none->PT,bool_bool->OT,int_tuple->Mk,str_tuple->Kq,tuple_int->G4,tuple_str->Ov,none_int->Jo,none_str->MS,bool_int->M6,bool_str->PS,int_none->Jl,int_bool->PE,str_none->I2,str_bool->Jz,int_int->Pm,int_str->GF,str_int->Hn,str_str->Gd,lists->Lh
open PySem.IsL renaming update->Dg
open PySem.SeqAt.RcNeAt renaming lists_lengths->MQ,none_tuple->Pj,bool_tuple->GY,tuple_none->IJ,tuple_bool->PM,none_none->Mx,none_bool->OL,bool_none->Mm,bool_bool->Kp,int_tuple->HK,str_tuple->Kw,tuple_int->J8,tuple_str->Pk,none_int->J_,none_str->HG,bool_int->JA,bool_str->NJ,int_none->MI,int_bool->Pr,str_none->Md,str_bool->IW,int_int->O7,int_str->IC,str_int->L_,str_str->Nf,tuples->Hf,lists->HD
open PySem.W.Looks renaming of_pure->Fn
open Prod.mk renaming injEq->EC
open List.cons renaming injEq->Ih
open Prod renaming ext->Fq
open PySem renaming Scope->gn,Str->aB,Heap->aV,Value->ae,CmpOp->jR,Sem->dD,Addr->ak,Stmt->cF,Expr->bk,Obj->a3,Shared->ah,Around->bl,World->bc,Program->bz,Builtin->bq,cLine->bK,model->aO,Tok->hH,Paired->d0,sysModules->iV,mainGlobals->dq,builtinsNs->xO,bootBuiltins->ez,Env->eA,GenState->oI,Model->gT,eval->b8,isTrue->oD,backTo->gh,starEach->bQ,swapsWith->mE,assign->hC,assignInOrder->Bl,assignEach->eV,setItem->sm,swapsWithSole->Aq,swappedStores->CW,PassesOwn->qK,pyNext->gC,letOwnedTupleGo->qu,pyIter->ro,rawInt->jN,Walks->kM,foldedSetIterable->k8,Operator->uM,binaryOp->fR,compareOp->dY,behindInMarks->oP,recursionLimit->Eg,Result->oL,FuncData->gj,BindsTo->me,bindArgs->i0,Keyword->rk,NameKind->dh,cellsFrom->yn,richCompare->nh,IsPart->jT,getItem->lT,typeLookup->uv,seqIndex?->vN,sliceBounds->nr,PlainAttrs->tF,typeOf->qG,attributeBase->t8,valueAt->nj,atKey->k4,Params->s_,callerA->mN,cellOf->uf,compEnvC->tU,comprehension->xj,newList->rv,newExc->uA,newTuple->xi,firstArgMember->rT,field->mg,seqItems?->oW,ZipApart->tx,IsZip->iY,IsPair->hR,shortFactorBits->sq,getattributeRaised->z_,entryFor->vR,PyData->qA,SetTable->aQ,hashByValue->sg,ofAClassStatement->uC,searchCouldBeSeen->EM,carriedByValue->CN,setSearchFrom->DH,checkBuiltinCall->EX,ItemsOf->pO
open Bool renaming true->X,false->aq
open Option renaming some->Z,none->Y
open PyProof.Rows renaming IsTup->nQ,AllBare->kC,envOfC->iB,subscriptTail->Ex,IntsAre->q9,bubble->rq,SortKind->gf,Keyed->ba,SortSt->br,pendingOf->hv,failedOf->ht,mergeAt'->sh,ltAt'->nk,reverseSlice'->pA,seqObj->fX,keyKind'->wu,tuples'->qm
open PySem.W renaming WData->pW,WShape->qO,kas_rev->lR,kas_cmp->eQ,kas_item->a8,kas_st->tQ,Frag->Φ,nsIn->Ψ,fnOf->Ξ,keepIn->Θ,codeIn->Δ,methodObj->Γ
open PySem
abbrev aE:=@if_pos
abbrev aK:=@if_neg
abbrev c0:=@decide_eq_false
abbrev dd:=@decide_eq_true
abbrev hY:=@of_decide_eq_true
abbrev k_:=@decide_eq_false_iff_not
abbrev j1:=@decide_eq_true_iff
abbrev e1:=@if_false
abbrev kT:=@beq_self_eq_true
abbrev gv:=@if_true
abbrev kJ:=@or_false
abbrev uQ:=@beq_eq_false_iff_ne
abbrev xI:=@decide_eq_true_eq
abbrev vW:=@decide_eq_decide
abbrev p4:=@beq_iff_eq
variable{QT:Sort _}{p:Prop}
def xE1{q:QT->Prop}(c:∃g,q g)(n:∀g,q g->p):p:=have ⟨g,a⟩:=c;n g a
variable{Rk:Sort _}
def xE2{q:QT->Rk->Prop}(c:∃g e,q g e)(n:∀g e,q g e->p):p:=have ⟨g,e,a⟩:=c;n g e a
variable{RE:Sort _}
def xE3{q:QT->Rk->RE->Prop}(c:∃g e m,q g e m)(n:∀g e m,q g e m->p):p:=have ⟨g,e,m,a⟩:=c;n g e m a
variable{RF:Sort _}
def xE4{q:QT->Rk->RE->RF->Prop}(c:∃g e m v,q g e m v)(n:∀g e m v,q g e m v->p):p:=have ⟨g,e,m,v,a⟩:=c;n g e m v a
variable{RG:Sort _}
def xE5{q:QT->Rk->RE->RF->RG->Prop}(c:∃g e m v d,q g e m v d)(n:∀g e m v d,q g e m v d->p):p:=have ⟨g,e,m,v,d,a⟩:=c;n g e m v d a
variable{RH:Sort _}
def xE6{q:QT->Rk->RE->RF->RG->RH->Prop}(c:∃g e m v d C,q g e m v d C)(n:∀g e m v d C,q g e m v d C->p):p:=have ⟨g,e,m,v,d,C,a⟩:=c;n g e m v d C a
def xE9{b:Sort _}{QP:Sort _}{f:Sort _}{q:QT->Rk->RE->RF->RG->RH->b->QP->f->Prop}(c:∃g e m v d C L a i,q g e m v d C L a i)(n:∀g e m v d C L a i,q g e m v d C L a i->p):p:=have ⟨g,e,m,v,d,C,L,a,i,h⟩:=c;n g e m v d C L a i h
variable{g e:Prop}
def xA2(c:g/\e)(n:g->e->p):p:=n c.1 c.2
variable{m:Prop}
def xA3(c:g/\e/\m)(n:g->e->m->p):p:=n c.1 c.2.1 c.2.2
variable{v:Prop}
def xA4(c:g/\e/\m/\v)(n:g->e->m->v->p):p:=n c.1 c.2.1 c.2.2.1 c.2.2.2
variable{d:Prop}
def xA5(c:g/\e/\m/\v/\d)(n:g->e->m->v->d->p):p:=n c.1 c.2.1 c.2.2.1 c.2.2.2.1 c.2.2.2.2
variable{C:Prop}
def xA6(c:g/\e/\m/\v/\d/\C)(n:g->e->m->v->d->C->p):p:=n c.1 c.2.1 c.2.2.1 c.2.2.2.1 c.2.2.2.2.1 c.2.2.2.2.2
def xA8{L a:Prop}(c:g/\e/\m/\v/\d/\C/\L/\a)(n:g->e->m->v->d->C->L->a->p):p:=n c.1 c.2.1 c.2.2.1 c.2.2.2.1 c.2.2.2.2.1 c.2.2.2.2.2.1 c.2.2.2.2.2.2.1 c.2.2.2.2.2.2.2
set_option linter.all false
set_option maxRecDepth 100000
namespace L2
open Spec PyProof.Rows
variable{QS:gn}{Rm f:aB}{QH c:aV}{aI:aB->Option ae}{QF Q2:List aB}{Q8:jR}{C:ae->ae->dD ae}{bY Rt:List ak}{Rx:List cF}{L:Int->Int->Int}{QY m d:bk}{r n a QZ:Nat}{Qs:List bk}{Qw:Φ}{Q:List (ak×a3)}{QK:Pos}{h Qp:ah}{D Qt:ae->ah->Prop}{O:bl}{l:bc}{Qr:bz}{J:ae}{e g:ak}{QR:List ae}
inductive V where
 | aT|ax (e:Bool)|int (a:Int)|str (f:aB)|tup (I:List V)|fn (g:ak)|aR (I:List V)|fd
mutual
def V.beq:V->V->Bool
 |.aT,.aT=>X
 |.ax g,.ax e=>g==e
 |.int a,.int i=>decide (a=i)
 |.str f,.str H=>decide (f=H)
 |.tup g,.tup e=>V.kj g e
 |.fn g,.fn e=>decide (g=e)
 |.aR g,.aR e=>V.kj g e
 |.fd,.fd=>X
 |_,_=>aq
def V.kj:List V->List V->Bool
 |[],[]=>X
 |g::s,e::A=>V.beq g e&&V.kj s A
 |_,_=>aq
end
mutual
theorem V.beq_iff:∀g e:V,V.beq g e=X↔g=e
 |.aT,e=>by cases e<;>simp[V.beq]
 |.ax g,e=>by cases e<;>simp[V.beq]
 |.int a,e=>by cases e<;>simp[V.beq]
 |.str f,e=>by cases e<;>simp[V.beq]
 |.tup f,e=>by
  cases e with
  |tup H=>rw[V.beq,V.yi f H];simp
  |_=>simp[V.beq]
 |.fn g,e=>by cases e<;>simp[V.beq]
 |.aR f,e=>by
  cases e with
  |aR H=>rw[V.beq,V.yi f H];simp
  |_=>simp[V.beq]
 |.fd,e=>by cases e<;>simp[V.beq]
theorem V.yi:∀g e:List V,V.kj g e=X↔g=e
 |[],e=>by cases e<;>simp[V.kj]
 |f::s,e=>by
  cases e with
  |nil=>simp[V.kj]
  |cons H A=>rw[V.kj,cI,V.beq_iff f H,V.yi s A];simp
end
noncomputable instance:DecidableEq V:=λg e=>decidable_of_iff (V.beq g e=X) (V.beq_iff g e)
mutual
def dr(c:aV):V->ae->Prop
 |.aT,u=>u=.none
 |.ax e,u=>u=.bool e
 |.int a,u=>∃A,u=.int a A
 |.str f,u=>∃A,u=.str f A
 |.fn g,u=>u=.ref g
 |.aR _,u=>∃g,u=.ref g
 |.fd,u=>∃g,u=.ref g
 |.tup I,u=>∃g o QL r,u=.ref g/\c.get? g=Z o/\o.cls=.type "tuple" /\ o.data=.seq QL r/\du c I QL.toList
def du(c:aV):List V->List ae->Prop
 |[],U=>U=[]
 |v::I,U=>∃u s,U=u::s/\dr c v u/\du c I s
end
mutual
def V.key:Nat->V->Bool
 |_,.int _=>X
 |_,.str _=>X
 |r+1,.tup I=>V.keys r I
 |_,_=>aq
def V.keys:Nat->List V->Bool
 |_,[]=>X
 |r,v::I=>V.key r v&&V.keys r I
end
mutual
def di(l:bc):V->Int
 |.int a=>hashInt a
 |.str f=>hashStr l f
 |.tup I=>reduceHash (bq.Tuple.tupleHashOf<|hB l I)
 |_=>0
def hB(l:bc):List V->List Int
 |[]=>[]
 |v::I=>di l v::hB l I
end
mutual
def tK:V->Nat
 |.tup I=>ji I+1
 |_=>1
def ji:List V->Nat
 |[]=>0
 |v::I=>tK v+ji I
end
theorem uR(l:bc):∀g e:List V,hB l (g++e)=hB l g++hB l e
 |[],e=>rfl
 |v::g,e=>by rw[qN,hB,hB,uR l g e,qN]
theorem vv:∀g e:List V,ji (g++e)=ji g+ji e
 |[],e=>by simp[ji]
 |v::g,e=>by rw[qN,ji,ji,vv g e];lia
theorem AN{r:Nat}:∀{g e:List V},V.keys r (g++e)=X->V.keys r e=X
 |[],e,c=>c
 |v::g,e,c=>by rw[qN,V.keys,cI]at c;exact AN c.2
theorem du.length{c:aV}:∀{I:List V}{U:List ae},du c I U->I.length=U.length
 |[],U,d=>by rw[show U=[] from d];rfl
 |v::I,U,d=>by
  let⟨u,@s,rfl,W,d⟩:=d;rw[ey,ey,du.length d]
def rM(c T:aV):Prop:=(∀g o QL r,c.get? g=Z o->o.cls=.type "tuple" -> o.data=.seq QL r->T.get? g=Z o)
mutual
theorem dr.keep{c T:aV}(n:rM c T):∀{v:V}{u:ae},dr c v u->dr T v u
 |.aT,_,d=>d
 |.ax _,_,d=>d
 |.int _,_,d=>d
 |.str _,_,d=>d
 |.fn _,_,d=>d
 |.aR _,_,d=>d
 |.fd,_,d=>d
 |.tup I,_,d=>by
  let⟨g,o,QL,@r,rfl,t,E,a,b⟩:=d;exact⟨g,o,QL,r,rfl,n g o QL r t E a,E,a,du.keep n b⟩
theorem du.keep{c T:aV}(n:rM c T):∀{I:List V}{U:List ae},du c I U->du T I U
 |[],_,d=>d
 |v::I,_,d=>by
  let⟨u,@s,rfl,t,E⟩:=d;exact⟨u,s,rfl,dr.keep n t,du.keep n E⟩
end
theorem C2{c:aV}:∀(r:Nat) {f H:V}{u:ae},V.key r f=X->V.key r H=X->dr c f u->dr c H u->f=H
 |r,.int a,H,u,_,aX,h,b=>by
  let⟨@A,rfl⟩:=h;cases H with
  |int i=>let⟨@J,d⟩:=b;injection d with d;rw[d]
  |str l=>let⟨@J,d⟩:=b;cases d
  |tup I=>let⟨W,W,W,@W,d,W⟩:=b;cases d
  |_=>cases r<;>cases aX
 |r,.str l,H,u,_,aX,h,b=>by
  let⟨@A,rfl⟩:=h;cases H with
  |int i=>let⟨@J,d⟩:=b;cases d
  |str l=>let⟨@J,d⟩:=b;injection d with d;rw[d]
  |tup I=>let⟨W,W,W,@W,d,W⟩:=b;cases d
  |_=>cases r<;>cases aX
 |r+1,.tup I,H,u,q,aX,h,b=>by
  let⟨g,o,QL,@k,rfl,t,E,w,x⟩:=h;cases H with
  |int i=>let⟨@J,d⟩:=b;cases d
  |str l=>let⟨@J,d⟩:=b;cases d
  |tup Qs=>
   let⟨D,R,F,@G,d,m,L,j,y⟩:=b;cases d;rw[t]at m;cases m;rw[w]at j;injection j with j _;subst j;have all:∀(I Qs:List V) (U:List ae),V.keys r I=X->V.keys r Qs=X->du c I U->du c Qs U->I=Qs:=by
    intro I;induction I with
    |nil=>
     intro Qs U W W g e;cases Qs with
     |nil=>rfl
     |cons d Qs=>let⟨W,@W,p,W⟩:=e;rw[show U=[] from g]at p;cases p
    |cons v I z=>
     intro Qs U Q0 Q6 g e;let⟨u,@s,rfl,B,C⟩:=g;cases Qs with
     |nil=>cases (show u::s=[] from e)
     |cons d Qs=>
      let⟨N,@Ra,p,dV,dg⟩:=e;cases p;rw[V.keys,cI]at Q0 Q6;rw[C2 r Q0.1 Q6.1 B dV,z Qs s Q0.2 Q6.2 C dg]
   rw[all I Qs _ q aX x y]
  |_=>cases aX
 |_,.aT,_,_,n,_,_,_=>by cases ‹Nat›<;>cases n
 |_,.ax _,_,_,n,_,_,_=>by cases ‹Nat›<;>cases n
 |_,.fn _,_,_,n,_,_,_=>by cases ‹Nat›<;>cases n
 |_,.aR _,_,_,n,_,_,_=>by cases ‹Nat›<;>cases n
 |_,.fd,_,_,n,_,_,_=>by cases ‹Nat›<;>cases n
 |0,.tup _,_,_,n,_,_,_=>by cases n
section
variable{Qy:bz}{l:bc}
theorem Cg:∀(r:Nat) {O:bl}{Qt:ae->ah->Prop}{h:ah}{v:V}{u:ae}{D:Int->ah->Prop},V.key r v=X->O.units+r<bK->dr h.heap v u->D (di l v) {h with toks:=h.toks+tK v}->
  wpAny (aO Qy l) O (pyHash u) D Qt h
 |r,O,Qt,h,.int a,u,D,_,_,b,c=>by
  let⟨@A,rfl⟩:=b;exact BS c
 |r,O,Qt,h,.str a,u,D,_,_,b,c=>by
  let⟨@A,rfl⟩:=b;exact Du c
 |r+1,O,Qt,h,.tup I,u,D,n,z,b,c=>by
  let⟨g,o,QL,@k,rfl,q,x,y,S⟩:=b;have i:h.TypeIs (.ref g) "tuple" := ⟨o,q,x⟩;unfold pyHash;first|unfold pyHashByItsType|skip
  first|refine av (wpAny_cRoomFor_or (.inr ⋯) ?_)|skip
  refine av (nA i rd.lookup ?_);show wpAny _ _ (if (Z (ae.builtin "tuple.__hash__")==Z ae.none)=X then _ else _) D Qt h;rw[aK (by rw[beq_builtin_none];exact dv)];refine av (nA i rd.lookup ?_);show wpAny _ _ (callSpecialIfBoundUnlessNone? (.ref g) "__hash__" _ >>= _) D Qt h;refine av (wpAny_callSpecialIfBoundUnlessNone?_slot i rd<|iN rd i F.entry_tuple_hash ?_<|F.args_tuple_hash_1 _);show wpAny _ _ (bq.Tuple.tupleItemsOf (.ref g) >>= _) _ _ h;refine av (wpAny_tupleItemsOf q y ?_);refine av ?_;rw[<-sZ];refine m_ _
   (λcM (e:Array Int) Qp=>∃done left,I=done++left/\du h.heap left cM/\e.toList=hB l done/\Qp={h with toks:=h.toks+ji done})
   _ ?_ ?_ _ _ ⟨[],I,rfl,S,rfl,rfl⟩
  ·rintro f cM e Qp ⟨done,left,rfl,j,m,rfl⟩;cases left with
   |nil=>cases (show f::cM=[] from j)
   |cons v left=>
    let⟨u,@s,d,t,w⟩:=j;cases d;have Q6:=AN (g:=done) (show V.keys r (done++v::left)=X from n);rw[V.keys,cI]at Q6;refine av (Cg r Q6.1 (by show O.units+1+r<bK;lia) t ?_);first
     | exact aS ⟨done++[v],left,by simp,w,by simp[m,uR,hB],by simp[vv,ji,qI]⟩
     | exact av (aS (aS ⟨done++[v],left,by simp,w,by simp[m,uR,hB],by simp[vv,ji,qI]⟩))
  ·rintro e Qp ⟨done,left,rfl,j,m,rfl⟩;cases left with
   |cons v left=>let⟨W,@W,d,W⟩:=j;cases d
   |nil=>
   rw[cC]at c;show wpAny _ _ (retInt<|bq.Tuple.tupleHashOf e.toList) _ _ _;rw[m];refine wpAny_ret_mkInt ?_;show wpAny _ _ (if (decide (-(2:Int)^63<=bq.Tuple.tupleHashOf (hB l done))&&decide (bq.Tuple.tupleHashOf (hB l done)<2^63))=X then _ else _) D Qt _;rw[di,tK]at c;unfold reduceHash at c;by_cases p:(decide (-(2:Int)^63<=bq.Tuple.tupleHashOf (hB l done))&&decide (bq.Tuple.tupleHashOf (hB l done)<2^63))=X
   ·rw[aE p];rw[aE p]at c;exact aS (by simpa [qI] using c)
   ·rw[aK p];rw[aK p]at c;exact av (iJ (aS (by simpa [qI] using c)))
 |_,_,_,_,.aT,_,_,n,_,_,_=>by cases ‹Nat›<;>cases n
 |_,_,_,_,.ax _,_,_,n,_,_,_=>by cases ‹Nat›<;>cases n
 |_,_,_,_,.fn _,_,_,n,_,_,_=>by cases ‹Nat›<;>cases n
 |_,_,_,_,.aR _,_,_,n,_,_,_=>by cases ‹Nat›<;>cases n
 |_,_,_,_,.fd,_,_,n,_,_,_=>by cases ‹Nat›<;>cases n
 |0,_,_,_,.tup _,_,_,n,_,_,_=>by cases n
mutual
def cf:V->V->Bool
 |.aT,.aT=>X
 |.ax g,.ax e=>g==e
 |.ax g,.int i=>(if g then 1 else 0)==i
 |.int a,.ax e=>a==(if e then 1 else 0)
 |.int a,.int i=>a==i
 |.str f,.str H=>f==H
 |.tup g,.tup e=>dW g e
 |_,_=>aq
def dW:List V->List V->Bool
 |[],[]=>X
 |g::s,e::A=>cf g e&&dW s A
 |_,_=>aq
end
mutual
def V.bo:Nat->V->Bool
 |_,.aT=>X
 |_,.ax _=>X
 |_,.int _=>X
 |_,.str _=>X
 |r+1,.tup I=>V.ck r I
 |_,_=>aq
def V.ck:Nat->List V->Bool
 |_,[]=>X
 |r,v::I=>V.bo r v&&V.ck r I
end
theorem jt{r:Nat}:∀{I:List V}{i:Nat}{v:V},V.ck r I=X->I[i]?=Z v->V.bo r v=X
 |[],i,v,_,c=>by simp at c
 |d::I,0,v,n,c=>by
  rw[V.ck,cI]at n;simp at c;subst c;exact n.1
 |d::I,i+1,v,n,c=>by
  rw[V.ck,cI]at n;exact jt n.2 ⇑c
theorem du.get{c:aV}:∀{I:List V}{U:List ae}{i:Nat}{u:ae},du c I U->U[i]?=Z u->∃v,I[i]?=Z v/\dr c v u
 |[],U,i,u,g,d=>by rw[show U=[] from g]at d;simp at d
 |v::I,U,0,u,g,d=>by
  let⟨J,@s,rfl,a,b⟩:=g;simp at d;subst d;exact⟨v,rfl,a⟩
 |v::I,U,i+1,u,g,d=>by
  let⟨J,@s,rfl,a,b⟩:=g;let⟨@e,t,E⟩:=du.get (i:=i) b ⇑d;exact⟨e,by simpa using t,E⟩
theorem Fh{c:aV}:∀(r:Nat) {f H:V}{u:ae},V.bo r f=X->V.bo r H=X->dr c f u->dr c H u->cf f H=X
 |r,.aT,H,u,_,aX,h,b=>by
  cases (show u=.none from h);cases H with
  |aT=>rfl
  |ax e=>cases b
  |int i=>let⟨@J,d⟩:=b;cases d
  |str j=>let⟨@J,d⟩:=b;cases d
  |tup I=>let⟨W,W,W,@W,d,W⟩:=b;cases d
  |fn g=>cases r<;>cases aX
  |aR g=>cases r<;>cases aX
  |fd=>cases r<;>cases aX
 |r,.ax e,H,u,_,aX,h,b=>by
  cases (show u=.bool e from h);cases H with
  |aT=>cases b
  |ax m=>cases b;simp[cf]
  |int i=>let⟨@J,d⟩:=b;cases d
  |str j=>let⟨@J,d⟩:=b;cases d
  |tup I=>let⟨W,W,W,@W,d,W⟩:=b;cases d
  |fn g=>cases r<;>cases aX
  |aR g=>cases r<;>cases aX
  |fd=>cases r<;>cases aX
 |r,.int a,H,u,_,aX,h,b=>by
  let⟨@A,rfl⟩:=h;cases H with
  |aT=>cases b
  |ax m=>cases b
  |int i=>let⟨@J,d⟩:=b;cases d;simp[cf]
  |str j=>let⟨@J,d⟩:=b;cases d
  |tup I=>let⟨W,W,W,@W,d,W⟩:=b;cases d
  |fn g=>cases r<;>cases aX
  |aR g=>cases r<;>cases aX
  |fd=>cases r<;>cases aX
 |r,.str a,H,u,_,aX,h,b=>by
  let⟨@A,rfl⟩:=h;cases H with
  |aT=>cases b
  |ax m=>cases b
  |int i=>let⟨@J,d⟩:=b;cases d
  |str j=>let⟨@J,d⟩:=b;cases d;simp[cf]
  |tup I=>let⟨W,W,W,@W,d,W⟩:=b;cases d
  |fn g=>cases r<;>cases aX
  |aR g=>cases r<;>cases aX
  |fd=>cases r<;>cases aX
 |r+1,.tup I,H,u,w,aX,h,b=>by
  let⟨g,o,QL,@k,rfl,t,E,x,y⟩:=h;cases H with
  |aT=>cases b
  |ax m=>cases b
  |int i=>let⟨@J,d⟩:=b;cases d
  |str j=>let⟨@J,d⟩:=b;cases d
  |fn g=>cases aX
  |aR g=>cases aX
  |fd=>cases aX
  |tup Qs=>
   let⟨F,R,G,@L,d,q,M,l,z⟩:=b;cases d;rw[t]at q;cases q;rw[x]at l;injection l with l _;subst l;have all:∀(I Qs:List V) (U:List ae),V.ck r I=X->V.ck r Qs=X->du c I U->du c Qs U->dW I Qs=X:=by
    intro I;induction I with
    |nil=>
     intro Qs U W W g e;cases Qs with
     |nil=>rfl
     |cons d Qs=>let⟨W,@W,p,W⟩:=e;rw[show U=[] from g]at p;cases p
    |cons v I B=>
     intro Qs U Q0 Q6 g e;let⟨u,@s,rfl,C,D⟩:=g;cases Qs with
     |nil=>cases (show u::s=[] from e)
     |cons d Qs=>
      let⟨N,@Ra,p,dV,dg⟩:=e;cases p;rw[V.ck,cI]at Q0 Q6;rw[dW,Fh r Q0.1 Q6.1 C dV,B Qs s Q0.2 Q6.2 D dg];rfl
   rw[cf];exact all I Qs _ w aX y z
 |r,.fn _,_,_,n,_,_,_=>by cases r<;>cases n
 |r,.aR _,_,_,n,_,_,_=>by cases r<;>cases n
 |r,.fd,_,_,n,_,_,_=>by cases r<;>cases n
 |0,.tup _,_,_,n,_,_,_=>by cases n
def qw{d:Nat->Bool}:∀{I Qs:List V},(∀(i:Nat) (f H:V),I[i]?=Z f->Qs[i]?=Z H->d i=cf f H)->((range<|min I.length Qs.length).all d&&I.length==Qs.length)=dW I Qs:=by
 have M:∀(I Qs:List V) (C:Nat->Bool),(∀(i:Nat) (f H:V),I[i]?=Z f->Qs[i]?=Z H->C i=cf f H)->((range<|min I.length Qs.length).all C&&I.length==Qs.length)=dW I Qs:=by
  intro I;induction I with
  |nil=>intro Qs C W;cases Qs<;>simp[dW]
  |cons v I a=>
   intro Qs C c;cases Qs with
   |nil=>simp[dW]
   |cons m Qs=>
    have:=a Qs (λi=>C<|i+1) λi f H g e=>c (i+1) f H ⇑g ⇑e;rw[dW,<-this,<-c 0 v m rfl rfl];rw[ey,ey,show min (I.length+1) (Qs.length+1)=min I.length Qs.length+1 by lia,List.range_succ_eq_map,List.all_cons,ya,Bool.and_assoc];congr 2;rw[p0];simp
 exact λ{I Qs} c=>M I Qs d c
theorem iq{h:ah}:∀(r:Nat) {O:bl}{f H:V}{J u:ae},V.bo r f=X->V.bo r H=X->O.units+r+1<bK->dr h.heap f J->dr h.heap H u->SeqAt.EqAt O h J u (cf f H)
 |r,O,.aT,H,J,u,_,aX,s,j,b=>by
  cases (show J=.none from j);cases H with
  |aT=>cases (show u=.none from b);exact SeqAt.EqAt.same _
  |ax e=>cases (show u=.bool e from b);exact K_ e
  |int i=>let⟨@A,rfl⟩:=b;exact MK i A
  |str l=>let⟨@A,rfl⟩:=b;exact Nz l A
  |tup I=>let⟨g,o,QL,@k,rfl,t,E,q,W⟩:=b;exact N5 ⟨o,t,E,k,q⟩ ⋯
  |fn g=>cases r<;>cases aX
  |aR g=>cases r<;>cases aX
  |fd=>cases r<;>cases aX
 |r,O,.ax e,H,J,u,_,aX,s,j,b=>by
  cases (show J=.bool e from j);cases H with
  |aT=>cases (show u=.none from b);exact N_ e
  |ax m=>cases (show u=.bool m from b);exact Js e m
  |int i=>let⟨@A,rfl⟩:=b;exact Kk e i A
  |str l=>let⟨@A,rfl⟩:=b;exact Hu e l A
  |tup I=>let⟨g,o,QL,@k,rfl,t,E,q,W⟩:=b;exact KH e ⟨o,t,E,k,q⟩ ⋯
  |fn g=>cases r<;>cases aX
  |aR g=>cases r<;>cases aX
  |fd=>cases r<;>cases aX
 |r,O,.int a,H,J,u,_,aX,s,j,b=>by
  let⟨@c,rfl⟩:=j;cases H with
  |aT=>cases (show u=.none from b);exact MZ a c
  |ax m=>cases (show u=.bool m from b);exact JM a c m
  |int i=>let⟨@A,rfl⟩:=b;exact Lw a c i A
  |str l=>let⟨@A,rfl⟩:=b;exact EB a c l A
  |tup I=>let⟨g,o,QL,@k,rfl,t,E,q,W⟩:=b;exact Gk a c ⟨o,t,E,k,q⟩ ⋯
  |fn g=>cases r<;>cases aX
  |aR g=>cases r<;>cases aX
  |fd=>cases r<;>cases aX
 |r,O,.str a,H,J,u,_,aX,s,j,b=>by
  let⟨@c,rfl⟩:=j;cases H with
  |aT=>cases (show u=.none from b);exact Pu a c
  |ax m=>cases (show u=.bool m from b);exact M4 a c m
  |int i=>let⟨@A,rfl⟩:=b;exact BG a c i A
  |str l=>let⟨@A,rfl⟩:=b;exact ID a c l A
  |tup I=>let⟨g,o,QL,@k,rfl,t,E,q,W⟩:=b;exact HW a c ⟨o,t,E,k,q⟩ ⋯
  |fn g=>cases r<;>cases aX
  |aR g=>cases r<;>cases aX
  |fd=>cases r<;>cases aX
 |r+1,O,.tup I,H,J,u,w,aX,s,j,b=>by
  have C:=j;let⟨g,o,QL,@k,rfl,t,E,q,x⟩:=j;have Q9:h.heap.IsTuple g QL:=⟨o,t,E,k,q⟩;cases H with
  |aT=>cases (show u=.none from b);exact F5 Q9 ⋯
  |ax m=>cases (show u=.bool m from b);exact NN m Q9 ⋯
  |int i=>let⟨@A,rfl⟩:=b;exact KJ i A Q9 ⋯
  |str l=>let⟨@A,rfl⟩:=b;exact NA l A Q9 ⋯
  |fn g=>cases aX
  |aR g=>cases aX
  |fd=>cases aX
  |tup Qs=>
   have D:=b;let⟨e,R,v,@F,rfl,G,L,M,y⟩:=b;by_cases d:g=e
   ·subst d;rw[Fh (r+1) w aX C D];exact SeqAt.EqAt.same _
   ·have Rp:h.heap.IsTuple e v:=⟨R,G,L,F,M⟩;have aZ:=x.length;have bh:=y.length;have N:QL.toList.length=QL.size:=by simp
    have P:v.toList.length=v.size:=by simp
    rw[N]at aZ;rw[P]at bh;have p:=Li (A:=O) d (z5 (e:=λi=>cf (I.getD i .aT)<|Qs.getD i .aT) Q9 Rp ⋯ λi Q S=>by
     let⟨@Q_,z,T⟩:=x.get (i:=i) (u:=QL[i]) (by rw[eE];simp[Q]);let⟨@Rb,B,U⟩:=y.get (i:=i) (u:=v[i]) (by rw[eE];simp[S]);rw[cx,z,cx,B];exact iq r (jt w z) (jt aX B) (by show O.units+1+r+1<bK;lia) T U)
    rw[<-aZ,<-bh,qw (I:=I) (Qs:=Qs) (λi f H g e=>by rw[cx,g,cx,e];rfl)]at p;rw[cf];exact p
 |r,O,.fn _,_,_,_,n,_,_,_,_=>by cases r<;>cases n
 |r,O,.aR _,_,_,_,n,_,_,_,_=>by cases r<;>cases n
 |r,O,.fd,_,_,_,n,_,_,_,_=>by cases r<;>cases n
 |0,O,.tup _,_,_,_,n,_,_,_,_=>by cases n
mutual
theorem xK:∀{r:Nat}{v:V},V.key r v=X->V.bo r v=X
 |r,.int _,_=>by cases r<;>rfl
 |r,.str _,_=>by cases r<;>rfl
 |r+1,.tup I,c=>by rw[V.key]at c;rw[V.bo];exact D4 c
 |0,.tup _,c=>by cases c
 |r,.aT,c=>by cases r<;>cases c
 |r,.ax _,c=>by cases r<;>cases c
 |r,.fn _,c=>by cases r<;>cases c
 |r,.aR _,c=>by cases r<;>cases c
 |r,.fd,c=>by cases r<;>cases c
theorem D4:∀{r:Nat}{I:List V},V.keys r I=X->V.ck r I=X
 |r,[],_=>by rw[V.ck]
 |r,v::I,c=>by rw[V.keys,cI]at c;rw[V.ck,xK c.1,D4 c.2];rfl
end
mutual
theorem DU:∀{r:Nat}{f H:V},V.key r f=X->V.key r H=X->cf f H=decide (f=H)
 |r,.int a,H,_,b=>by
  cases H with
  |int i=>rw[cf];by_cases d:a=i<;>simp[d]
  |str e=>simp[cf]
  |tup e=>simp[cf]
  |_=>cases r<;>cases b
 |r,.str a,H,_,b=>by
  cases H with
  |int i=>simp[cf]
  |str e=>rw[cf];by_cases d:a=e<;>simp[d]
  |tup e=>simp[cf]
  |_=>cases r<;>cases b
 |r+1,.tup I,H,g,b=>by
  cases H with
  |int i=>simp[cf]
  |str e=>simp[cf]
  |tup Qs=>
   rw[V.key]at g b;rw[cf,Aw g b];simp
  |_=>cases b
 |0,.tup _,_,c,_=>by cases c
 |r,.aT,_,c,_=>by cases r<;>cases c
 |r,.ax _,_,c,_=>by cases r<;>cases c
 |r,.fn _,_,c,_=>by cases r<;>cases c
 |r,.aR _,_,c,_=>by cases r<;>cases c
 |r,.fd,_,c,_=>by cases r<;>cases c
theorem Aw:∀{r:Nat}{f H:List V},V.keys r f=X->V.keys r H=X->dW f H=decide (f=H)
 |r,[],H,_,_=>by cases H<;>simp[dW]
 |r,v::I,[],_,_=>by simp[dW]
 |r,v::I,d::Qs,a,b=>by
  rw[V.keys,cI]at a b;rw[dW,DU a.1 b.1,Aw a.2 b.2];by_cases t:v=d<;>by_cases E:I=Qs<;>simp[t,E]
end
theorem td:∀(r:Nat) {O:bl}{Qt:ae->ah->Prop}{h:ah}{v:V}{u:ae}{D:Bool->ah->Prop},V.key r v=X->dr h.heap v u->D X h->wpAny (aO Qy l) O (eqIsQuiet r u) D Qt h
 |r,O,Qt,h,.int a,u,D,_,b,c=>by
  let⟨@A,rfl⟩:=b;rw[DY r rfl];exact aS c
 |r,O,Qt,h,.str a,u,D,_,b,c=>by
  let⟨@A,rfl⟩:=b;rw[DY r rfl];exact aS c
 |r+1,O,Qt,h,.tup I,u,D,n,b,c=>by
  let⟨g,o,QL,@k,rfl,i,p,q,S⟩:=b;have j:h.TypeIs (.ref g) "tuple" := ⟨o,i,p⟩;unfold eqIsQuiet;refine av (nA j F.slot_tuple_eq.lookup ?_);show wpAny _ _ (isInstance (.ref g) (.type "tuple") >>= _) _ _ h;refine av (sG j isSubtype_tuple_tuple ?_);simp only[nI,gu,e1];refine av (hj i q ?_);refine av ?_;show wpAny _ _ (forIn QL _ _) _ _ h;rw[<-sZ];rw[V.key]at n;refine m_ _ (λcM s Qp=>s.1=Y/\Qp=h/\∃left,V.keys r left=X/\du h.heap left cM) _ ?_ ?_ _ _ ⟨rfl,rfl,I,n,S⟩
  ·rintro u cM s Qp ⟨e,rfl,left,f,m⟩;cases left with
   |nil=>cases (show u::cM=[] from m)
   |cons v left=>
    let⟨x,@Ra,d,t,w⟩:=m;cases d;rw[V.keys,cI]at f;refine av (td r f.1 t ?_);simp only[nI,gu,e1];exact aS ⟨rfl,rfl,left,f.2,w⟩
  ·rintro⟨y,z⟩ Qp ⟨e,rfl,W⟩;simp only at e;subst e;exact aS c
 |_,_,_,_,.aT,_,_,n,_,_=>by cases ‹Nat›<;>cases n
 |_,_,_,_,.ax _,_,_,n,_,_=>by cases ‹Nat›<;>cases n
 |_,_,_,_,.fn _,_,_,n,_,_=>by cases ‹Nat›<;>cases n
 |_,_,_,_,.aR _,_,_,n,_,_=>by cases ‹Nat›<;>cases n
 |_,_,_,_,.fd,_,_,n,_,_=>by cases ‹Nat›<;>cases n
 |0,_,_,_,.tup _,_,_,n,_,_=>by cases n
def d8(Qy:bz)(l:bc):HeapKind Qy l (List V) where
 is:=λc I g=>V.keys 7 I=X/\dr c (.tup I) (.ref g)
 hash:=λI=>di l (.tup I)
 draws:=λI=>tK (.tup I)
 room:=λO=>O.units+10<bK
 inj:=λa b=>by
  have:=C2 8 (f:=.tup _) (H:=.tup _) a.1 b.1 a.2 b.2;injection this
 keeps:=λ{c T n g v o Qs Rc} f m q Qx=>⟨f.1,f.2.keep λe J QL r i t k=>by
  have s:e≠v:=by
   rintro rfl;rw[m]at i;cases i;rw[q]at k;cases k
  exact (Qx.2 e s).trans i⟩
 pyHash:=λj d c=>Cg 8 (v:=.tup _) d.1 (show _<_ by have:_+10<bK:=j;lia) d.2 c
 eqBool:=λ{O Qt h f H g e D} j a b c=>by
  have p:=iq (h:=h) 8 (O:=O) (f:=.tup f) (H:=.tup H) (xK (r:=8) (v:=.tup f) a.1) (xK (r:=8) (v:=.tup H) b.1) (show _<_ by have:O.units+10<bK:=j;lia) a.2 b.2;rw[DU (r:=8) (f:=.tup f) (H:=.tup H) a.1 b.1]at p;exact p _ _ Qt D ⇑c
 quiet:=λd c=>td 8 (v:=.tup _) d.1 d.2 c
end
abbrev d_:=Sum Int aB
def n4:d_->ae->Bool
 |.inl n,u=>ae.isInt n u
 |.inr f,u=>ae.isStrOf f u
def LN(l:bc):d_->Int
 |.inl n=>hashInt n
 |.inr f=>hashStr l f
theorem kl:∀{n:d_}{u:ae},n4 n u=X->(∃a A,n=Sum.inl a/\u=ae.int a A)\/(∃f A,n=Sum.inr f/\u=ae.str f A)
 |.inl a,u,c=>by
  let⟨@A,d⟩:=ae.isInt_shape (k:=a) (v:=u) c;exact .inl ⟨a,A,rfl,d⟩
 |.inr f,u,c=>by
  let⟨@A,d⟩:=ae.isStrOf_shape (x:=f) (v:=u) c;exact .inr ⟨f,A,rfl,d⟩
def NW(a:Int)(A:hH):n4 (.inl a) (.int a A)=X:=by simp[n4,ae.isInt]
def O8(f:aB)(A:hH):n4 (.inr f) (.str f A)=X:=by simp[n4,ae.isStrOf]
def JQ(g e:Int):decide ((Sum.inl g:d_)=Sum.inl e)=(g==e):=by
 by_cases d:g=e
 ·subst d;simp
 ·have c:¬ (Sum.inl g:d_)=Sum.inl e:=λp=>d (Sum.inl.inj p);rw[c0 c];exact (uQ.mpr d).symm
def IT(g e:aB):decide ((Sum.inr g:d_)=Sum.inr e)=decide (g=e):=by
 by_cases d:g=e
 ·subst d;simp
 ·have c:¬ (Sum.inr g:d_)=Sum.inr e:=λp=>d (Sum.inr.inj p);rw[c0 c,c0 d]
def Pe(g:Int)(e:aB):decide ((Sum.inl g:d_)=Sum.inr e)=aq:=c0 (λp=>nomatch p)
def Hj(g:aB)(e:Int):decide ((Sum.inr g:d_)=Sum.inl e)=aq:=c0 (λp=>nomatch p)
def lP(Qy:bz)(l:bc):PySem.KeyKind Qy l d_ where
 is:=n4
 hash:=LN l
 inj:=λu g e k j=>by
  rcases kl k with ⟨a,A,rfl,rfl⟩|⟨f,A,rfl,rfl⟩
  ·rcases kl j with ⟨i,J,rfl,d⟩|⟨H,J,rfl,d⟩
   ·injection d with b _;rw[b]
   ·exact nomatch d
  ·rcases kl j with ⟨i,J,rfl,d⟩|⟨H,J,rfl,d⟩
   ·exact nomatch d
   ·injection d with b _;rw[b]
 byValue:=λn u c=>by
  rcases kl c with ⟨a,A,rfl,rfl⟩|⟨f,A,rfl,rfl⟩<;>rfl
 pyHash:=λh c=>by
  rcases kl h with ⟨a,A,rfl,rfl⟩|⟨f,A,rfl,rfl⟩
  ·exact BS c
  ·exact Du c
 eqBool:=λm h c=>by
  rcases kl m with ⟨a,A,rfl,rfl⟩|⟨f,A,rfl,rfl⟩
  ·rcases kl h with ⟨i,J,rfl,rfl⟩|⟨H,J,rfl,rfl⟩
   ·rw[JQ]at c;exact wpAny_eqBool_int c
   ·rw[Pe]at c;exact EB a A H J _ _ _ _ c
  ·rcases kl h with ⟨i,J,rfl,rfl⟩|⟨H,J,rfl,rfl⟩
   ·rw[Hj]at c;exact BG f A i J _ _ _ _ c
   ·rw[IT]at c;exact wpAny_eqBool_str c
 «strs»:=λn f A u c=>by
  rcases kl c with ⟨a,J,rfl,d⟩|⟨H,J,rfl,d⟩
  ·exact nomatch d
  ·injection d with b _;subst b;cases u<;>rfl
def Ki(Qy:bz)(l:bc)(a:Int)(A:hH):(lP Qy l).is (.inl a) (.int a A)=X:=NW a A
def Jq(Qy:bz)(l:bc)(f:aB)(A:hH):(lP Qy l).is (.inr f) (.str f A)=X:=O8 f A
inductive af where
 | aT|ax (e:Bool)|int (a:Int)|str (f:aB)|p5 (e:Array UInt8)|x1 (e:UInt64)|ref (g:ak)|ty (r:String)
 deriving DecidableEq
variable{U w:List af}{H u:af}
def b7:af->ae->Prop
 |.aT,J=>J=ae.none
 |.ax e,J=>J=ae.bool e
 |.int a,J=>∃A,J=ae.int a A
 |.str f,J=>∃A,J=ae.str f A
 |.p5 e,J=>∃A,J=ae.bytes e A
 |.x1 e,J=>∃A,J=ae.float e A
 |.ref g,J=>J=ae.ref g
 |.ty r,J=>J=ae.type r
abbrev bM:List af->List ae->Prop:=d0 b7
def bM.length(s:bM w QR):w.length=QR.length:=d0.length s
theorem bM.get:∀{w:List af}{QR:List ae}{a:Nat}{f:af},bM w QR->w[a]?=Z f->∃J,QR[a]?=Z J/\b7 f J
 |_,_,_,_,.nil,d=>by simp at d
 |_,_,0,_,.cons s _,d=>by simp at d;subst d;exact⟨_,rfl,s⟩
 |_,_,a+1,f,.cons _ A,d=>by
  let⟨@J,t,E⟩:=bM.get (a:=a) (f:=f) A ⇑d;exact⟨J,by simpa using t,E⟩
theorem bM.set{f:af}{J:ae}(s:b7 f J):∀{w:List af}{QR:List ae} (a:Nat),bM w QR->bM (w.set a f) (QR.set a J)
 |_,_,_,.nil=>.nil
 |_,_,0,.cons _ A=>.cons s A
 |_,_,a+1,.cons p A=>.cons p (bM.set s a A)
theorem bM.append:∀{w QJ:List af}{QR F:List ae},bM w QR->bM QJ F->bM (w++QJ) (QR++F)
 |_,_,_,_,.nil,h=>h
 |_,_,_,_,.cons s A,h=>.cons s (bM.append A h)
theorem bM.take:∀{w:List af}{QR:List ae} (r:Nat),bM w QR->bM (w.take r) (QR.take r)
 |_,_,0,_=>.nil
 |_,_,_+1,.nil=>.nil
 |_,_,r+1,.cons s A=>.cons s (bM.take r A)
theorem bM.drop:∀{w:List af}{QR:List ae} (r:Nat),bM w QR->bM (w.drop r) (QR.drop r)
 |_,_,0,s=>s
 |_,_,_+1,.nil=>.nil
 |_,_,r+1,.cons _ A=>bM.drop r A
def j6:Option af->Option ae->Prop
 |some u,Z J=>b7 u J
 |none,Y=>True
 |_,_=>False
def fp{QP:Type}:List (QP×af)->List (QP×ae)->Prop:=(d0 λ(q:QP×af) (p:QP×ae)=>q.1=p.1/\b7 q.2 p.2)
def b0:d_->af
 |.inl a=>.int a
 |.inr f=>.str f
inductive fY where
 | lst (w:List af)
 | tup (w:List af)
 | dn (QG:List (d_×af))|aH (QG:List (List V×af))
 | set (QI:Int->Bool) (r:Nat)
 | ins (aL i:ak) (ab:List (aB×af))
 | own (f:ak)
 | u6 (ab:List (aB×af))
 | met (C f:ak)
 | yb (R S:Int)
 | dP (o:a3) (J:fY)
 | nG (QF:Array ae)
 | ext (Ql:aV->Prop)
variable{o:fY}
abbrev aw:=ak->Option fY
variable{F j:aw}
def upd(j:aw)(g:ak)(o:fY):aw:=(λe=>if e=g then Z o else j e)
def fa:upd j g o g=Z o:=by unfold upd;rw[aE rfl]
def cU(c:e≠g):upd j g o e=j e:=by unfold upd;rw[aK c]
def zy{J:fY}(c:j g=Z o)(T:j e=Z J)(v:o≠J):g≠e:=by
 intro d;subst d;rw[c]at T;exact v (Option.some.inj T)
def gP(c:j g=Z o)(T:j e=Y):g≠e:=by
 intro d;subst d;rw[c]at T;cases T
mutual
def cq(j:aw):V->af->Prop
 |.aT,u=>u=.aT
 |.ax e,u=>u=.ax e
 |.int a,u=>u=.int a
 |.str f,u=>u=.str f
 |.fn g,u=>u=.ref g
 |.aR I,u=>∃g w o,u=.ref g/\j g=Z (.dP o<|.lst w)/\bx j I w
 |.fd,u=>∃g o,u=.ref g/\j g=Z (.dP o<|.aH [])
 |.tup I,u=>∃g w,u=.ref g/\j g=Z (.tup w)/\bx j I w
def bx(j:aw):List V->List af->Prop
 |[],U=>U=[]
 |v::I,U=>∃u s,U=u::s/\cq j v u/\bx j I s
end
def pY(j F:aw):Prop:=(∀g w,j g=Z (.tup w)->F g=Z (.tup w))
structure oM(j F:aw):Prop where
 t:pY j F
 z:∀g o J,j g=Z (.dP o J)->F g=Z (.dP o J)
noncomputable instance {j F:aw}:CoeFun (oM j F) (λ_=>∀g w,j g=Z (.tup w)->F g=Z (.tup w)):=⟨λA=>A.t⟩
mutual
theorem cq.mono{j F:aw}(n:oM j F):∀{v:V}{u:af},cq j v u->cq F v u
 |.aT,_,d=>d
 |.ax _,_,d=>d
 |.int _,_,d=>d
 |.str _,_,d=>d
 |.fn _,_,d=>d
 |.tup I,_,d=>by
  let⟨g,@w,rfl,t,E⟩:=d;exact⟨g,w,rfl,n.t g w t,bx.mono n E⟩
 |.aR I,_,d=>by
  let⟨g,w,@o,rfl,t,E⟩:=d;exact⟨g,w,o,rfl,n.z g _ _ t,bx.mono n E⟩
 |.fd,_,d=>by
  let⟨g,@o,rfl,t⟩:=d;exact⟨g,o,rfl,n.z g _ _ t⟩
theorem bx.mono{j F:aw}(n:oM j F):∀{I:List V}{U:List af},bx j I U->bx F I U
 |[],_,d=>d
 |v::I,_,d=>by
  let⟨u,@s,rfl,t,E⟩:=d;exact⟨u,s,rfl,cq.mono n t,bx.mono n E⟩
end
def hp(j:aw)(n:List V)(e:ak):Prop:=(V.keys 7 n=X/\cq j (.tup n) (.ref e))
mutual
theorem cq.pN{j F:aw}(n:pY j F):∀{v:V}{r:Nat}{u:af},V.key r v=X->cq j v u->cq F v u
 |.aT,_,_,_,d=>d
 |.ax _,_,_,_,d=>d
 |.int _,_,_,_,d=>d
 |.str _,_,_,_,d=>d
 |.fn _,_,_,_,d=>d
 |.tup I,r+1,_,p,d=>by
  let⟨g,@w,rfl,t,E⟩:=d;exact⟨g,w,rfl,n g w t,bx.pN n p E⟩
 |.tup I,0,_,p,d=>nomatch p
 |.aR I,0,_,p,d=>nomatch p
 |.aR I,r+1,_,p,d=>nomatch p
 |.fd,0,_,p,d=>nomatch p
 |.fd,r+1,_,p,d=>nomatch p
theorem bx.pN{j F:aw}(n:pY j F):∀{I:List V}{r:Nat}{U:List af},V.keys r I=X->bx j I U->bx F I U
 |[],_,_,_,d=>d
 |v::I,r,_,p,d=>by
  let⟨u,@s,rfl,t,E⟩:=d;rw[V.keys,cI]at p;exact⟨u,s,rfl,cq.pN n p.1 t,bx.pN n p.2 E⟩
end
def hp.mono{n:List V}(c:hp j n e)(A:pY j F):hp F n e:=by
 let@⟨a,⟨g,@w,d,t,E⟩⟩:=c;exact⟨a,g,w,d,A g w t,E.pN A a⟩
def lF(c:aV)(g:ak)(QL:Array ae):Prop:=(∃o,c.get? g=Z o/\(o.cls,o.dict)=(.type "tuple",Y)/\∃r,o.data=.seq QL r)
def lF.tup{QL:Array ae}(f:lF c g QL):nQ c g QL:=let ⟨o,d,m,s⟩:=f;⟨o,d,(Prod.mk.inj m).1,s⟩
def lF.new(c:aV)(QL:Array ae):lF (c.push {cls:=.type "tuple",data:=.seq QL}) c.objs.size QL:=⟨_,c_ _ rfl,rfl,_,rfl⟩
section
variable(Qr:bz)(l:bc)
def eK(j:aw)(c:aV)(g:ak):fY->Prop
 |.lst w=>w.length<=sizeLine/\∃(QD:List ae) (r:Nat),bM w QD/\c.get? g=Z {cls:=.type "list",data:=.seq QD.toArray r}
 |.tup w=>w.length<=sizeLine/\∃QD:List ae,bM w QD/\lF c g QD.toArray
 |.dn QG=>QG.length<=sizeLine/\(g==iV)=aq/\∃U,fp QG U/\c.DictOf (lP Qr l) g U
 |.aH QG=>QG.length<=sizeLine/\(g==iV)=aq/\∃w:List (List V×ak×ae),
   d0 (λ(q:List V×af) (p:List V×ak×ae)=>q.1=p.1/\hp j q.1 p.2.1/\b7 q.2 p.2.2) QG w/\
   ∃o Qs Rc,c.get? g=Z o/\o.ExactDict/\o.data=.dict Qs Rc/\Qs.toList=w.map (entryOfKey<|d8 Qr l)/\(w.map (·.1)).Nodup
 |.set QI r=>c.SetOf (intKind Qr l) g QI r
 |.ins aL i ab=>j i=Z (.own g)/\ab.length<=1000/\i≠g/\c.get? g=Z (PySem.W.instObj aL i)/\
   ∃y,c.Ns1 i y/\(∀C,j6 (ab.lookup C)<|y C)/\PySem.Within y (ab.map (·.1))
 |.own _=>∃o,c.get? g=Z o
 |.u6 ab=>∃y,c.Ns1 g y/\∀C,j6 (ab.lookup C) (y C)
 |.yb R S=>∃A J u,c.get? g=Z {cls:=.type "range",data:=.fields #[.int R A,.int S J,.int 1 u]}
 |.dP o J=>c.get? g=Z o/\eK j c g J
 |.nG QF=>c.get? g=Z {cls:=.none,data:=.fields QF}
 |.met C f=>c.get? g=Z (Γ (.ref C)<|.ref f)
 |.ext a=>a c/\(∃o,c.get? g=Z o)/\∀t E:aV,a t->(∀o,t.get? g=Z o->E.get? g=Z o)->a E
def dQ(j:aw)(c:aV):Prop:=(∀g o,j g=Z o->eK Qr l j c g o)
end
section
variable{Qr:bz}{l:bc}{j F:aw}{c T:aV}{g:ak}{o:fY}
def eK.lt(f:eK Qr l j c g o):g<c.objs.size:=by
 cases o with
 |lst w=>let@⟨_,⟨_,@_,_,d⟩⟩:=f;exact b1 d
 |tup w=>let@⟨_,⟨@_,_,q⟩⟩:=f;exact q.tup.lt
 |dn QG=>let@⟨_,_,⟨@_,_,⟨o,_,@_,d,_⟩⟩⟩:=f;exact b1 d
 |aH QG=>let@⟨_,_,⟨@_,_,⟨o,_,@_,d,_⟩⟩⟩:=f;exact b1 d
 |set QI r=>let⟨o,W,W,@W,d,W⟩:=f;exact b1 d
 |ins aL i ab=>let@⟨_,_,_,d,_⟩:=f;exact b1 d
 |own H=>let⟨@W,d⟩:=f;exact b1 d
 |u6 ab=>let⟨@W,⟨W,W,@W,d,W⟩,W⟩:=f;exact b1 d
 |yb R S=>let⟨W,W,@W,d⟩:=f;exact b1 d
 |dP a J=>let@⟨d,_⟩:=f;exact b1 d
 |nG QF=>exact b1 (show c.get? g=Z _ from f)
 |met C H=>exact b1 (show c.get? g=Z _ from f)
 |ext b=>let@⟨_,⟨@_,d⟩,_⟩:=f;exact b1 d
theorem d0.tl{QT Rk:Type}{P QE:QT->Rk->Prop}:∀{a:List QT}{b:List Rk},d0 P a b->(∀g e,P g e->QE g e)->d0 QE a b
 |_,_,.nil,_=>.nil
 |_,_,.cons s A,C=>.cons (C _ _ s) (d0.tl A C)
def eK.iL(f:eK Qr l j c g o)(n:∀e J,(e=g\/j e=Z (.own g))->c.get? e=Z J->T.get? e=Z J)(h:∀e,j e=Z (.own g)->F e=Z (.own g))(bf:∀e w,j e=Z (.tup w)->F e=Z (.tup w)):eK Qr l F T g o:=by
 induction o with
 |lst w=>let@⟨a,⟨QD,@r,s,d⟩⟩:=f;exact⟨a,QD,r,s,n _ _ (.inl rfl) d⟩
 |tup w=>let@⟨a,⟨@QD,s,⟨@b,d,m⟩⟩⟩:=f;exact⟨a,QD,s,b,n _ _ (.inl rfl) d,m⟩
 |dn QG=>let@⟨a,H,⟨@U,s,⟨b,Qs,@Rc,d,m⟩⟩⟩:=f;exact⟨a,H,U,s,b,Qs,Rc,n _ _ (.inl rfl) d,m⟩
 |aH QG=>
  let@⟨a,H,⟨@w,s,⟨b,Qs,@Rc,d,m⟩⟩⟩:=f;exact⟨a,H,w,d0.tl s λq p a=>⟨a.1,a.2.1.mono bf,a.2.2⟩,b,Qs,Rc,n _ _ (.inl rfl) d,m⟩
 |set QI r=>let⟨b,Qs,Rc,@A,d,m⟩:=f;exact⟨b,Qs,Rc,A,n _ _ (.inl rfl) d,m⟩
 |ins aL i ab=>
  let@⟨v,a,ne,d,⟨@y,⟨t,Qs,@Rc,k,m⟩,s⟩⟩:=f;exact⟨h _ v,a,ne,n _ _ (.inl rfl) d,y,⟨t,Qs,Rc,n _ _ (.inr v) k,m⟩,s⟩
 |own H=>let⟨@b,d⟩:=f;exact⟨b,n _ _ (.inl rfl) d⟩
 |u6 ab=>let⟨@y,⟨t,Qs,@Rc,d,m⟩,s⟩:=f;exact⟨y,⟨t,Qs,Rc,n _ _ (.inl rfl) d,m⟩,s⟩
 |yb R S=>let⟨A,J,@u,d⟩:=f;exact⟨A,J,u,n _ _ (.inl rfl) d⟩
 |dP b J x=>let@⟨d,p⟩:=f;exact⟨n _ _ (.inl rfl) d,x p⟩
 |nG QF=>
  have d:c.get? g=Z {cls:=.none,data:=.fields QF}:=f;show T.get? g=Z {cls:=.none,data:=.fields QF};exact n g _ (.inl rfl) d
 |met C H=>
  have d:c.get? g=Z (Γ (.ref C)<|.ref H):=f;show T.get? g=Z (Γ (.ref C)<|.ref H);exact n g _ (.inl rfl) d
 |ext z=>let@⟨q,⟨@o,d⟩,N⟩:=f;exact⟨N _ _ q λo p=>n _ _ (.inl rfl) p,⟨o,n _ _ (.inl rfl) d⟩,N⟩
theorem dQ.lt(f:dQ Qr l j c)(d:j g=Z o):g<c.objs.size:=(f g o d).lt
def dQ.fresh(f:dQ Qr l j c)(d:c.objs.size<=g):j g=Y:=by
 cases p:j g with
 |none=>rfl
 |some J=>exact absurd (e5 (f.lt p) d) (jU _)
def dQ.kept(f:dQ Qr l j c)(n:∀e J,c.get? e=Z J->T.get? e=Z J):dQ Qr l j T:=λg o d=>
 (f g o d).iL (λe J W p=>n e J p) (λ_ p=>p) λ_ W p=>p
def dQ.laid(f:dQ Qr l j c)(n:∀e J,c.get? e=Z J->T.get? e=Z J)(h:c.objs.size<=g)(new:eK Qr l (upd j g o) T g o):dQ Qr l (upd j g o) T:=λe J d=>by
 have a:=f.fresh h;by_cases b:e=g
 ·subst b;rw[fa]at d;cases d;exact new
 ·rw[cU b]at d;exact (f e J d).iL (λm u W p=>n m u p) (λm p=>by rw[cU (gP p a)];exact p) λm w p=>by rw[cU (gP p a)];exact p
end
def jK(j:aw)(g:ak)(J:fY):Prop:=(j g=Z J\/∃o,j g=Z (.dP o J))
def jK.ok{J:fY}(s:jK j g J)(f:dQ Qr l j c):eK Qr l j c g J:=by
 rcases s with s|⟨o,s⟩
 ·exact f g J s
 ·let@⟨_,p⟩:=f g _ s;exact p
def qh:Option fY->Prop
 |some (.lst _)=>True
 |some (.dn _)=>True
 |some (.aH _)=>True
 |some (.set _ _)=>True
 |some (.ins _ _ _)=>True
 |some (.ext _)=>True
 |_=>False
section
variable{Qr:bz}{l:bc}{j:aw}{c T:aV}{f d:ak}{R:fY}
def dQ.write(ok:dQ Qr l j c)(a:qh (j f))(i:d=f\/j d=Z (.own f))(n:∀e J,e≠d->c.get? e=Z J->T.get? e=Z J)(q:∃J,T.get? d=Z J)(new:eK Qr l (upd j f R) T f R):dQ Qr l (upd j f R) T:=λe J p=>by
 have k:∀m H,j m=Z (.own H)->m≠f:=λm H s z=>by subst z;rw[s]at a;exact a
 have r:∀m w,j m=Z (.tup w)->m≠f:=λm w s z=>by subst z;rw[s]at a;exact a
 by_cases b:e=f
 ·subst b;rw[fa]at p;cases p;exact new
 ·rw[cU b]at p;by_cases g:e=d
  ·have o:j e=Z (.own f):=by
    rcases i with z|z
    ·exact absurd (g.trans z) b
    ·rw[g];exact z
   rw[p]at o;cases o;let⟨@u,t⟩:=q;exact⟨u,by rw[g];exact t⟩
  ·refine (ok e J p).iL (λm u h s=>n m u ?_ s) (λm s=>by rw[cU (k m e s)];exact s) λm w s=>by rw[cU (r m w s)];exact s
   rcases h with rfl|h
   ·exact g
   ·rintro rfl;rcases i with z|z
    ·exact k m e h z
    ·rw[h]at z;cases z;exact b rfl
end
structure eX(ab Rh:List ak)(j F:aw)(c T:aV):Prop where
 keep:∀e o,c.get? e=Z o->j e=Y->e∉ab->e∉Rh->T.get? e=Z o
 slot:∀e o,c.get? e=Z o->j e=Y->e∈ab->e∉Rh->∃aU,T.get? e=Z {o with slots:=aU}
 free:∀e o,c.get? e=Z o->j e=Y->e∉Rh->F e=Y
 there:∀e o,c.get? e=Z o->e∉Rh->∃R,T.get? e=Z R
 jS:∀e w,j e=Z (.tup w)->F e=Z (.tup w)
 jf:∀e o J,j e=Z (.dP o J)->F e=Z (.dP o J)
 k5:∀e QF,j e=Z (.nG QF)->∃more,F e=Z (.nG<|QF++more)
section
variable{ab k Rh b:List ak}{j QB QN:aw}{c t E T:aV}{g f d:ak}{o:fY}
def eX.any(J:eX ab Rh j QB c t){e:ak}{a:a3}(p:c.get? e=Z a)(r:j e=Y)(b:e∉Rh):∃aU,t.get? e=Z {a with slots:=aU}:=by
 by_cases d:e∈ab
 ·exact J.slot e a p r d b
 ·exact⟨a.slots,J.keep e a p r d b⟩
def eX.kept(n:∀e J,c.get? e=Z J->T.get? e=Z J):eX ab Rh j j c T:=
 ⟨λe a p W W W=>n e a p,λe a p W W W=>⟨a.slots,n e a p⟩,λ_ W W r W=>r,λe a p W=>⟨a,n e a p⟩,λ_ W p=>p,λ_ W W p=>p,λ_ QF p=>⟨#[],by rw[p];simp⟩⟩
def eX.refl:eX ab Rh j j c c:=eX.kept λ_ W p=>p
theorem eX.laid(n:∀e J,c.get? e=Z J->T.get? e=Z J)(b:c.objs.size<=g)(a:j g=Y):eX ab Rh j (upd j g o) c T where
 keep:=λe J p W W W=>n e J p
 slot:=λe J p W W W=>⟨J.slots,n e J p⟩
 free:=λe J p r W=>by rw[cU (c1<|e5 (b1 p) b)];exact r
 there:=λe J p W=>⟨J,n e J p⟩
 jS:=λe w p=>by rw[cU (gP p a)];exact p
 jf:=λe J w p=>by rw[cU (gP p a)];exact p
 k5:=λe QF p=>⟨#[],by rw[cU (gP p a),p];simp⟩
def eX.write(b:qh (j f))(l:d=f\/j d=Z (.own f))(n:∀e J,e≠d->c.get? e=Z J->T.get? e=Z J)(m:∃J,T.get? d=Z J):eX ab Rh j (upd j f o) c T:=by
 have h:∀e,j e=Y->e≠f:=λe r a=>by subst a;rw[r]at b;exact b
 have i:∀e,j e=Y->e≠d:=λe r a=>by
  subst a;rcases l with s|s
  ·exact h e r s
  ·rw[r]at s;cases s
 have g:∀e J,j e=Z J->¬ qh (Z J)->e≠f:=λe J p x a=>by subst a;rw[p]at b;exact x b
 refine⟨λe J p r W W=>n e J (i e r) p,λe J p r W W=>⟨J.slots,n e J (i e r) p⟩,λe J p r W=>by rw[cU (h e r)];exact r,λe J p W=>?_,
  λe w p=>by rw[cU (g e _ p λa=>a)];exact p,λe J w p=>by rw[cU (g e _ p λa=>a)];exact p,λe QF p=>⟨#[],by rw[cU (g e _ p λa=>a),p];simp⟩⟩;by_cases k:e=d
 ·subst k;exact m
 ·exact⟨J,n e J k p⟩
end
def tE(c:aV)(j:aw):List ak:=((range c.objs.size).filter λg=>(j g).isSome)
def kO(c:aV)(j:aw):aV:=(PySem.W.hideAll c (tE c j))
def L7(c:aV)(j:aw):(kO c j).objs.size=c.objs.size:=PySem.W.hideAll_size _ _
def Gl{o:a3}(d:c.get? e=Z o)(r:j e=Y):(kO c j).get? e=Z o:=
 PySem.W.hideAll_get _ d λa=>by
  have p:(j e).isSome=X:=(hS.mp a).2;rw[r]at p;simp at p
def G0{o:a3}(d:(kO c j).get? e=Z o):c.get? e=Z o/\j e=Y:=by
 have a:c.get? e=Z o:=PySem.W.of_hideAll (tE c j) d;refine⟨a,?_⟩;cases p:j e with
 |none=>rfl
 |some f=>
  have b:e∈tE c j:=hS.mpr ⟨e0.mpr<|b1 a,by simp[p]⟩;have g:(kO c j).get? e=Y:=PySem.W.hideAll_none (tE c j) b;rw[g]at d;cases d
def ON(L c:aV)(Qz:ak):List (ak×a3):=((range c.objs.size).filterMap λg=>if g=Qz\/(L.get? g).isSome=X then Y else (c.get? g).map λo=>(g,o))
def cM(L c:aV)(Qz v:ak):List (ak×a3):=((ON L c Qz).filter λq=>decide (q.1≠v))
structure Mod(Qw:Φ)(aI:aB->Option ae)(QH:aV):Prop where
 w_:Qw.In QH
 glob:QH.Ns dq aI
 blt:∃AB,QH.Ns xO AB/\∀f:aB,f ≠ "__name__" -> AB f=ez f
 nolimit:QH.NoLimit
structure aJ where
 prog:bz
 w:bc
 K:Φ
 aI:aB->Option ae
 base:aV
 A:bl
 N:List aB
 eF:ah
 o7:aw
 env:eA
 outer:List eA
 stack:List eA
 ex:List ak
 fn:aB->Bool
 calm:Bool
 jP:List (ak×a3)
 cE:ae->ah->Prop
variable{b:aJ}
def hE(x:List eA):List ak:=(x.filterMap (·.frame))
abbrev aJ.ab(b:aJ):List ak:=hE b.outer
def t_(A:gn)(f:aB):Prop:=(A.names.lookup f=Z .local\/A.names.lookup f=Z .cell\/A.names.lookup f=Z .free)
def jh(A:gn)(f:aB):Prop:=(A.names.lookup f=Z .local\/A.names.lookup f=Z .cell)
def Ie(Qv:eA)(c:aV)(k:aB->Option ae)(f:aB)(J:ae):Prop:=(
 (Qv.kindOf f=Z .local/\k f=Z J)\/((Qv.kindOf f=Z .cell\/Qv.kindOf f=Z .free)/\∃m,Qv.cells.lookup f=Z m/\c.IsCell m (Z J)))
structure aJ.Ok(b:aJ):Prop where
 mod:Mod b.K b.aI b.base
 kind:b.env.scope.kind=.function
 glob:b.env.globals=dq
 blt:b.env.builtins=xO
 above:b.eF.heap.objs.size<=b.env.locals
 inj:∀f H m,b.env.cells.lookup f=Z m->b.env.cells.lookup H=Z m->f=H
 has:∀f,(b.env.kindOf f=Z .cell\/b.env.kindOf f=Z .free)->∃m,b.env.cells.lookup f=Z m
 n7:∀f m,b.fn f=X->b.env.cells.lookup f=Z m->b.eF.heap.objs.size<=m
 hd:b.calm=X->b.A.handled=Y
 frames:b.A.frames=Z b.stack
 rl:b.stack=b.outer\/(b.stack=b.env::b.outer/\b.env.frame=Z b.env.locals)
 vL:∀e∈b.ex,e≠b.env.locals/\∀f m,b.env.cells.lookup f=Z m->m≠e
 bs:∀e o,b.base.get? e=Z o->b.eF.heap.get? e=Z o/\b.o7 e=Y
 kk:b.base.objs.size<=b.eF.heap.objs.size
 o6:∀e o,b.base.get? e=Z o->e∉b.ex
 o1:∀e∈b.ex,e∉b.ab
 iv:b.eF.heap.FunFrames b.base b.outer
 mn:∀e∈b.ab,b.o7 e=Y
structure aA(b:aJ)(Q:List (ak×a3))(B:List (Option af))(j:aw)(h:ah):Prop where
 ok:b.Ok
 os:h.os=b.eF.os
 bare:kC h.gens
 base:eX b.ab b.ex b.o7 j b.eF.heap h.heap
 loc:∃k,h.heap.Ns b.env.locals k/\∀(a:Nat) (f:aB) (u:af),b.N[a]?=Z f->B[a]?=Z (Z u)->t_ b.env.scope f->∃J,b7 u J/\Ie b.env h.heap k f J
 cell:∀f m,b.env.cells.lookup f=Z m->∃u,h.heap.IsCell m u
 free:j b.env.locals=Y
 i6:∀f m,b.env.cells.lookup f=Z m->j m=Y
 pin:∀q∈b.jP++Q,h.heap.get? q.1=Z q.2/\j q.1=Y/\q.1≠b.env.locals/\q.1∉b.ab/\∀u,q.2.data≠.cell u
 a0:dQ b.prog b.w j h.heap
 len:B.length=b.N.length
section
variable{b:aJ}{Q:List (ak×a3)}{B:List (Option af)}{j F:aw}{h:ah}{T:aV}
def aJ.Ok.Nu(ok:b.Ok){e:ak}{o:a3}(d:b.base.get? e=Z o):e∉b.ab:=λa=>by
 have:=(ok.iv.mem a).1;rw[d]at this;cases this
def aA.bs(G:aA b Q B j h):∀e o,b.base.get? e=Z o->h.heap.get? e=Z o/\j e=Y:=λe o d=>
 ⟨G.base.keep e o (G.ok.bs e o d).1 (G.ok.bs e o d).2 (G.ok.Nu d) (G.ok.o6 e o d),G.base.free e o (G.ok.bs e o d).1 (G.ok.bs e o d).2 (G.ok.o6 e o d)⟩
def aA.eL(G:aA b Q B j h):∀e o,b.base.get? e=Z o->h.heap.get? e=Z o:=λe o d=>(G.bs e o d).1
def aA.mod(G:aA b Q B j h):Mod b.K b.aI b.base:=G.ok.mod
def aA.oH(G:aA b Q B j h):b.K.In h.heap:=G.ok.mod.w_.keeps G.eL
def aA.lt(G:aA b Q B j h):b.env.locals<h.heap.objs.size:=let ⟨_,a,_⟩:=G.loc;a.lt
def aA.iI(G:aA b Q B j h):b.eF.heap.objs.size<=h.heap.objs.size:=eG G.ok.above (mj G.lt)
def aA.NR(G:aA b Q B j h){g:ak}(c:h.heap.objs.size<=g):g∉b.ab:=λa=>by
 let@⟨_,⟨@o,d,_⟩⟩:=G.ok.iv.mem a;exact absurd (e5 (b1 d)<|eG G.iI c) (jU _)
def aA.mC(G:aA b Q B j h):∀f m,b.env.cells.lookup f=Z m->m≠b.env.locals:=λf m d e=>by
 let⟨u,@o,a,c⟩:=G.cell f m d;let⟨@k,⟨R,Qs,@Rc,g,i,W⟩,W⟩:=G.loc;rw[e,g]at a;cases a;rw[i]at c;cases c
def aA.iv(G:aA b Q B j h):h.heap.FunFrames b.base b.outer:=by
 have all:∀(x:List eA),(∀e∈hE x,e∈b.ab)->b.eF.heap.FunFrames b.base x->h.heap.FunFrames b.base x:=by
  intro x;induction x with
  |nil=>intro W W;trivial
  |cons Qv s g=>
   intro Qx i;let@⟨k,⟨Qz,@o,a,l,m,n⟩,p⟩:=i;have c:Qz∈b.ab:=Qx Qz (by unfold hE;rw[pE,a];exact k1);let⟨@aU,d⟩:=G.base.slot Qz o m (G.ok.mn Qz c) c λq=>G.ok.o1 Qz q c;exact⟨k,⟨Qz,_,a,l,d,n⟩,g (λe f=>Qx e (by unfold hE;rw[pE,a];exact jX _ f)) p⟩
 exact all b.outer (λ_ f=>f) G.ok.iv
def aA.stack(G:aA b Q B j h):h.heap.FunFrames b.base b.stack:=by
 rcases G.ok.rl with d|⟨d,a⟩
 ·rw[d];exact G.iv
 ·rw[d];let⟨@k,c,W⟩:=G.loc;refine .cons (by rw[G.ok.kind];decide) a c ?_ G.iv;exact u4 (eG G.ok.kk G.ok.above)
def aA.wX(G:aA b Q B j h):∀e∈hE b.stack,e∈b.env.locals::b.ab:=λe a=>by
 rcases G.ok.rl with d|⟨d,c⟩
 ·rw[d]at a;exact jX _ a
 ·rw[d]at a;unfold hE at a;rw[pE,c]at a;exact a
def aA.BJ(G:aA b Q B j h):∀e∈hE b.stack,j e=Y:=λe a=>by
 rcases cu.mp (G.wX e a) with d|a
 ·rw[d];exact G.free
 ·let@⟨_,⟨@o,c,_⟩⟩:=G.ok.iv.mem a;exact G.base.free e o c (G.ok.mn e a) λf=>G.ok.o1 e f a
def aA.step{H:Array oI}{QZ:Nat}{U:Drawn}{Rt:List ak}(G:aA b Q B j h)(y:∀e∈Rt,(e∈b.ex\/b.eF.heap.objs.size<=e)/\e≠b.env.locals/\(∀f m,b.env.cells.lookup f=Z m->m≠e)/\∀q∈b.jP++Q,q.1≠e)(keep:∀e o,e≠b.env.locals->e∉b.ab->e∉Rt->h.heap.get? e=Z o->j e=Y->T.get? e=Z o)(I:∀e o,e≠b.env.locals->e∈b.ab->e∉Rt->h.heap.get? e=Z o->j e=Y->∃aU,T.get? e=Z {o with slots:=aU})(free:∀e o,e∉Rt->h.heap.get? e=Z o->j e=Y->F e=Y)(al:∀e o,e∉Rt->h.heap.get? e=Z o->∃R,T.get? e=Z R)(jS:∀e w,j e=Z (.tup w)->F e=Z (.tup w))(jf:∀e o J,j e=Z (.dP o J)->F e=Z (.dP o J))(k5:∀e QF,j e=Z (.nG QF)->∃am,F e=Z (.nG<|QF++am))(QM:∀k,h.heap.Ns b.env.locals k->T.Ns b.env.locals k)(a0:dQ b.prog b.w F T)(an:kC H):
  aA b Q B F {h with heap:=T,gens:=H,drawn:=U,toks:=QZ}:=by
 have L:∀e o,b.eF.heap.get? e=Z o->e≠b.env.locals:=λe o d=>c1 (e5 (b1 d) G.ok.above);have D:∀e o,b.eF.heap.get? e=Z o->e∉b.ex->e∉Rt:=λe o d c i=>by
  rcases (y e i).1 with z|z
  ·exact c z
  ·exact absurd (e5 (b1 d) z) (jU _)
 have N:∀f m,b.env.cells.lookup f=Z m->∀u,h.heap.IsCell m u->T.IsCell m u:=λf m d u ⟨o,t,E⟩=>by
  have A:m∉Rt:=λz=>(y m z).2.2.1 f m d rfl;by_cases O:m∈b.ab
  ·let⟨@aU,p⟩:=I m o (G.mC f m d) O A t (G.i6 f m d);exact⟨_,p,E⟩
  ·exact⟨o,keep m o (G.mC f m d) O A t<|G.i6 f m d,E⟩
 refine⟨G.ok,G.os,an,⟨λe o d r i c=>?_,λe o d r i c=>?_,λe o d r c=>?_,λe o d c=>?_,λe w d=>jS e w<|G.base.jS e w d,λe o w d=>jf e o w<|G.base.jf e o w d,λe QF d=>?_⟩,?_,λf m d=>?_,?_,λf m d=>?_,λq P=>?_,a0,G.len⟩
 ·exact keep e o (L e o d) i (D e o d c) (G.base.keep e o d r i c) (G.base.free e o d r c)
 ·let⟨@aU,g⟩:=G.base.slot e o d r i c;let⟨@ap,C⟩:=I e _ (L e o d) i (D e o d c) g (G.base.free e o d r c);exact⟨ap,C⟩
 ·let⟨@R,g⟩:=G.base.there e o d c;exact free e R (D e o d c) g (G.base.free e o d r c)
 ·let⟨@R,g⟩:=G.base.there e o d c;exact al e R (D e o d c) g
 ·let⟨@as,g⟩:=G.base.k5 e QF d;let⟨@a1,C⟩:=k5 e _ g;exact⟨as++a1,by rw[C,Array.append_assoc]⟩
 ·let⟨@k,a2,bd⟩:=G.loc;refine⟨k,QM k a2,λa f u g C be=>?_⟩;let⟨@J,s,x⟩:=bd a f u g C be;refine⟨J,s,?_⟩;rcases x with x|⟨n,m,d,z⟩
  ·exact .inl x
  ·exact .inr ⟨n,m,d,N f m d _ z⟩
 ·let⟨@u,z⟩:=G.cell f m d;exact⟨u,N f m d u z⟩
 ·let⟨@k,⟨o,W,@W,t,W⟩,W⟩:=G.loc;exact free _ o (λz=>(y _ z).2.1 rfl) t G.free
 ·let⟨u,@o,t,E⟩:=G.cell f m d;exact free m o (λz=>(y m z).2.2.1 f m d rfl) t (G.i6 f m d)
 ·let@⟨d,r,ne,S,v⟩:=G.pin q P;have A:q.1∉Rt:=λz=>(y q.1 z).2.2.2 q P rfl;exact⟨keep q.1 q.2 ne S A d r,free q.1 q.2 A d r,ne,S,v⟩
def aA.un(G:aA b Q B j h)(J:eX b.ab [] j F h.heap T)(a0:dQ b.prog b.w F T):aA b Q B F {h with heap:=T,toks:=QZ}:=by
 let⟨@k,⟨o,Qs,@Rc,c,s⟩,W⟩:=id G.loc;let⟨@aU,g⟩:=J.any c G.free ↥0;exact G.step (H:=h.gens) (U:=h.drawn) (Rt:=[]) (λ_ i=>nomatch i) (λe o W a W d r=>J.keep e o d r a ↥0) (λe o W a W d r=>J.slot e o d r a ↥0) (λe o W d r=>J.free e o d r ↥0) (λe o W d=>J.there e o d ↥0) J.jS J.jf J.k5 (λu m=>by
  let⟨R,n,@p,f,Ra⟩:=m;rw[c]at f;cases f;exact⟨_,n,p,g,Ra⟩) a0 G.bare
def aA.call{i:Array oI}{u:Drawn}(G:aA b Q B j h)(J:eX (hE b.stack) Rt j F h.heap T)(a0:dQ b.prog b.w F T)(v:kC i)(n:∀e∈Rt,(e∈b.ex\/b.eF.heap.objs.size<=e)/\e≠b.env.locals/\(∀f m,b.env.cells.lookup f=Z m->m≠e)/\∀q∈b.jP++Q,q.1≠e):
  aA b Q B F {h with heap:=T,gens:=i,drawn:=u,toks:=QZ}:=by
 let⟨@k,⟨o,Qs,@Rc,p,s⟩,W⟩:=id G.loc;let⟨@aU,c⟩:=J.any p G.free λg=>(n _ g).2.1 rfl;exact G.step (Rt:=Rt) n (λe o c x a d r=>J.keep e o d r (λg=>(cu.mp<|G.wX e g).elim c x) a) (λe o W W a d r=>J.any d r a) (λe o a d r=>J.free e o d r a) (λe o a d=>J.there e o d a) J.jS J.jf J.k5 (λC y=>by
  let⟨R,z,@A,t,Ra⟩:=y;rw[p]at t;cases t;exact⟨_,z,A,c,Ra⟩) a0 v
def aA.turned{it:ak}(G:aA b Q B j h)(n:∀e o,e≠it->h.heap.get? e=Z o->T.get? e=Z o)(i:j it=Y)(c:it≠b.env.locals)(t:it∈b.ex\/b.eF.heap.objs.size<=it)(E:∀f m,b.env.cells.lookup f=Z m->m≠it)(l:∀q∈b.jP++Q,q.1≠it):aA b Q B j {h with heap:=T,toks:=QZ}:=by
 have g:∀e J,j e=Z J->e≠it:=λe J d z=>by rw[z,i]at d;cases d
 refine G.step (H:=h.gens) (U:=h.drawn) (Rt:=[it]) (λe v=>?_) (λe o W W a d W=>n e o (λz=>a (by simp[z])) d) (λe o W W a d W=>⟨o.slots,n e o (λz=>a (by simp[z])) d⟩) (λ_ W W W r=>r)
  (λe o a d=>⟨o,n e o (λz=>a (by simp[z])) d⟩) (λ_ W d=>d) (λ_ W W d=>d) (λe QF d=>⟨#[],by rw[d];simp⟩) (λk w=>?_) (λe J d=>?_) G.bare
 ·have d:e=it:=by simpa using v
  subst d;exact⟨t,c,E,l⟩
 ·let⟨o,Qs,@Rc,x,s⟩:=w;exact⟨o,Qs,Rc,n _ o (fP c) x,s⟩
 ·refine (G.a0 e J d).iL (λm u a p=>n m u ?_ p) (λ_ p=>p) λ_ W p=>p;rcases a with z|z
  ·rw[z];exact g e J d
  ·exact g m _ z
def aA.tok(G:aA b Q B j h)(A:Nat):aA b Q B j {h with toks:=A}:=G.un (T:=h.heap) (QZ:=A) eX.refl G.a0
def aA.kept(G:aA b Q B j h)(n:∀e J,h.heap.get? e=Z J->T.get? e=Z J):aA b Q B j {h with heap:=T,toks:=QZ}:=G.un (eX.kept n) (G.a0.kept n)
def aA.laid(G:aA b Q B j h)(n:∀e J,h.heap.get? e=Z J->T.get? e=Z J)(a:h.heap.objs.size<=g)(new:eK b.prog b.w (upd j g o) T g o):
  aA b Q B (upd j g o) {h with heap:=T,toks:=QZ}:=G.un (eX.laid n a<|G.a0.fresh a) (G.a0.laid n a new)
def aA.write{f d:ak}(G:aA b Q B j h)(a:qh (j f))(c:d=f\/j d=Z (.own f))(n:∀e J,e≠d->h.heap.get? e=Z J->T.get? e=Z J)(g:∃J,T.get? d=Z J)(new:eK b.prog b.w (upd j f o) T f o):aA b Q B (upd j f o) {h with heap:=T,toks:=QZ}:=G.un (eX.write a c n g) (G.a0.write a c n g new)
def aA.weak{c:List (Option af)}(G:aA b Q B j h)(d:c.length=B.length)(l:∀(a:Nat) u,c[a]?=Z (Z u)->B[a]?=Z (Z u)):aA b Q c j h:=
 ⟨G.ok,G.os,G.bare,G.base,let ⟨k,e,g⟩:=G.loc;⟨k,e,λa f u i m n=>g a f u i (l a u m) n⟩,G.cell,G.free,G.i6,G.pin,G.a0,d.trans G.len⟩
def aA.nN{a:List (ak×a3)}(G:aA b Q B j h)(c:∀q∈a,h.heap.get? q.1=Z q.2/\j q.1=Y/\q.1≠b.env.locals/\q.1∉b.ab/\∀u,q.2.data≠.cell u):aA b a B j h:=
 ⟨G.ok,G.os,G.bare,G.base,G.loc,G.cell,G.free,G.i6,λq d=>(dG.mp d).elim (λe=>G.pin q<|dO _ e)<|c q,G.a0,G.len⟩
def AD(b:Q2.Nodup){a i:Nat}{f:aB}(g:Q2[a]?=Z f)(e:Q2[i]?=Z f):a=i:=by
 let⟨@t,c⟩:=e9.mp g;let⟨@E,d⟩:=e9.mp e;exact (Ft b).mp (c.trans d.symm)
variable{D:Unit->ah->Prop}
def Am{ay:gT}(G:aA b Q B j h)(a2:b.N.Nodup)(S:b.N[a]?=Z f)(y:jh b.env.scope f)(s:b7 u J)(c:∀Qp,aA b Q (B.set a<|Z u) j Qp->(∃g,aV.SameBut g h.heap Qp.heap/\(g=b.env.locals\/b.env.cells.lookup f=Z g))->D () Qp)(ca:b.fn f=X\/b.env.scope.names.lookup f=Z .local:=by first|exact .inl rfl|exact .inr rfl|assumption):wpAny ay O (storeName b.env f J) D Qt h:=by
 let⟨@k,U,bd⟩:=id G.loc;have cd:(b.env.scope.kind==.class || (b.env.scope.kind==.module&&b.env.locals != b.env.globals))=aq:=by rw[G.ok.kind];rfl
 have be:a<B.length:=by rw[G.len];exact (e9.mp S).1
 have mC:=G.mC;have bi:∀{g:ak}{T:aV},(∃o,h.heap.get? g=Z o/\j g=Y)->aV.SameBut g h.heap T->dQ b.prog b.w j T:=λ{g T} ce Qx e ch d=>by
  let⟨@W,W,bm⟩:=ce;refine (G.a0 e ch d).iL (λm L x p=>(Qx.2 m ?_).trans p) (λ_ p=>p) λ_ W p=>p;rintro rfl;rcases x with rfl|x
  ·rw[bm]at d;cases d
  ·rw[bm]at x;cases x
 rcases y with C|C
 ·refine wpAny_storeName_local C U (λT ci Qx=>?_) cd;let⟨cl,W,@W,co,W⟩:=id U;refine c _ ⟨G.ok,G.os,G.bare,⟨λe o d r F y=>?_,λe o d r F y=>?_,G.base.free,λe o d y=>?_,G.base.jS,G.base.jf,G.base.k5⟩,⟨_,ci,λi H al t A am=>?_⟩,λH m d=>?_,G.free,G.i6,λq an=>?_,bi ⟨cl,co,G.free⟩ Qx,by simpa using G.len⟩ ⟨_,Qx,.inl rfl⟩
  ·exact (Qx.2 e<|c1<|e5 (b1 d) G.ok.above).trans (G.base.keep e o d r F y)
  ·let⟨@aU,t⟩:=G.base.slot e o d r F y;exact⟨aU,(Qx.2 e<|c1<|e5 (b1 d) G.ok.above).trans t⟩
  ·let⟨@R,t⟩:=G.base.there e o d y;exact⟨R,(Qx.2 e<|c1<|e5 (b1 d) G.ok.above).trans t⟩
  ·by_cases I:i=a
   ·subst I;rw[S]at t;cases t;rw[tX be]at A;cases A;exact⟨J,s,.inl ⟨C,by simp⟩⟩
   ·rw[mM (fP I)]at A;let⟨@ap,Ra,p⟩:=bd i H al t A am;refine⟨ap,Ra,?_⟩;rcases p with ⟨n,d⟩|⟨n,m,d,z⟩
    ·refine .inl ⟨n,?_⟩;have:H≠f:=λd=>I (AD a2 t<|d ▸ S);simp[this,d]
    ·exact .inr ⟨n,m,d,z.sameBut Qx<|mC H m d⟩
  ·let⟨@L,z⟩:=G.cell H m d;exact⟨L,z.sameBut Qx<|mC H m d⟩
  ·let@⟨d,r,ne,as,v⟩:=G.pin q an;exact⟨(Qx.2 q.1 ne).trans d,r,ne,as,v⟩
 ·have a1:b.fn f=X:=by
   rcases ca with z|z
   ·exact z
   ·rw[z]at C;cases C
  let⟨@m,x⟩:=G.ok.has f (.inl C);let⟨@L,z⟩:=G.cell f m x;refine wpAny_storeName_cell G.ok.kind C x z (λT bn Qx=>?_);let⟨@E,bs,cr⟩:=id z;refine c {h with heap:=T} ⟨G.ok,G.os,G.bare,⟨λe o d r F y=>?_,λe o d r F y=>?_,G.base.free,λe o d y=>?_,G.base.jS,G.base.jf,G.base.k5⟩,⟨k,U.sameBut Qx<|fP<|mC f m x,λi H al t A am=>?_⟩,λH P d=>?_,G.free,G.i6,λq an=>?_,bi ⟨E,bs,G.i6 f m x⟩ Qx,by simpa using G.len⟩ ⟨m,Qx,.inr x⟩
  ·exact (Qx.2 e<|c1<|e5 (b1 d)<|G.ok.n7 f m a1 x).trans (G.base.keep e o d r F y)
  ·let⟨@aU,t⟩:=G.base.slot e o d r F y;exact⟨aU,(Qx.2 e<|c1<|e5 (b1 d)<|G.ok.n7 f m a1 x).trans t⟩
  ·let⟨@R,t⟩:=G.base.there e o d y;exact⟨R,(Qx.2 e<|c1<|e5 (b1 d)<|G.ok.n7 f m a1 x).trans t⟩
  ·by_cases I:i=a
   ·subst I;rw[S]at t;cases t;rw[tX be]at A;cases A;exact⟨J,s,.inr ⟨.inl C,m,x,bn⟩⟩
   ·rw[mM (fP I)]at A;let⟨@ap,Ra,p⟩:=bd i H al t A am;refine⟨ap,Ra,?_⟩;rcases p with p|⟨n,P,d,cs⟩
    ·exact .inl p
    ·refine .inr ⟨n,P,d,cs.sameBut Qx ?_⟩;rintro rfl;exact I (AD a2 t<|G.ok.inj _ _ _ d x ▸ S)
  ·by_cases bv:P=m
   ·subst bv;exact⟨_,bn⟩
   ·let⟨@db,ds⟩:=G.cell H P d;exact⟨db,ds.sameBut Qx bv⟩
  ·let@⟨d,r,ne,as,v⟩:=G.pin q an;refine⟨(Qx.2 q.1 ?_).trans d,r,ne,as,v⟩;intro p;rw[p,bs]at d;have dL:E=q.2:=Option.some.inj d;exact v L (by rw[<-dL];exact cr)
def BB{ay:gT}(G:aA b Q B j h)(d:b.N.Nodup)(S:b.N[a]?=Z f)(e:jh b.env.scope f)(s:b7 u J)(c:∀Qp,aA b Q (B.set a<|Z u) j Qp->D () Qp)(g:b.fn f=X\/b.env.scope.names.lookup f=Z .local:=by first|exact .inl rfl|exact .inr rfl|assumption):wpAny ay O (storeName b.env f J) D Qt h:=
 Am G d S e s (λQp i W=>c Qp i) g
def aA.PW(G:aA b Q B j h)(g:Qp.os=h.os)(J:eX (hE b.stack) Rt j F h.heap Qp.heap)(a0:dQ b.prog b.w F Qp.heap)(i:kC Qp.gens)(k:∀e∈Rt,(e∈b.ex\/b.eF.heap.objs.size<=e)/\e≠b.env.locals/\(∀f m,b.env.cells.lookup f=Z m->m≠e)/\∀q∈b.jP++Q,q.1≠e):aA b Q B F Qp:=by
 let⟨T,a,c,QZ,R⟩:=Qp;have d:R=h.os:=g;subst d;exact G.call (i:=a) (QZ:=QZ) (u:=c) J a0 i k
end
abbrev gs:=ae->Option ak->aw->Prop
abbrev aW:=List (Option af)
variable{B:aW}
abbrev cz:=af->aw->Prop
abbrev b2:=aW->aw->cz->Prop
variable{Rq:b2}
abbrev dZ:=aW->aw->(Bool->aw->Prop)->Prop
variable{RC:dZ}
abbrev eW:=aW->aw->(List af->aw->Prop)->Prop
structure m5 where
 bg:aW->aw->Prop
 et:cz
 eL:aW->aw->Prop:=λ_ _=>False
 bW:aW->aw->Prop:=λ_ _=>False
abbrev eN:=m5->aW->aw->Prop
variable{Rp:eN}
def d4(b:aJ)(Q:List (ak×a3))(B:aW)(D:cz)(J:ae)(Qp:ah):Prop:=(∃u F,aA b Q B F Qp/\b7 u J/\D u F)
def tr(b:aJ)(Q:List (ak×a3))(B:aW)(D:Bool->aw->Prop)(e:Bool)(Qp:ah):Prop:=(∃F,aA b Q B F Qp/\D e F)
def HO(b:aJ)(Q:List (ak×a3))(B:aW)(D:List af->aw->Prop)(QR:List ae)(Qp:ah):Prop:=(∃U F,aA b Q B F Qp/\bM U QR/\D U F)
def om(b:aJ)(Q:List (ak×a3))(y:m5)(C:Flow)(Qp:ah):Prop:=(
 match C with
 |.next=>∃a F,aA b Q a F Qp/\y.bg a F
 |.brk=>∃a F,aA b Q a F Qp/\y.eL a F
 |.cont=>∃a F,aA b Q a F Qp/\y.bW a F
 |.ret J=>∃u a F,aA b Q a F Qp/\b7 u J/\y.et u F)
def wC(b:aJ)(d:bk)(A:b2)(Q:List (ak×a3)):Prop:=(
 ∀(h:ah) (B:aW) (j:aw) (D:cz),aA b Q B j h->A B j D->wpAny (aO b.prog b.w) b.A (b8 d b.env) (d4 b Q B D) b.cE h)
def bN(b:aJ)(d:bk)(A:b2):Prop:=(∀Q,wC b d A Q)
def EG(b:aJ)(d:bk)(A:dZ)(Q:List (ak×a3)):Prop:=(
 ∀(h:ah) (B:aW) (j:aw) (D:Bool->aw->Prop),aA b Q B j h->A B j D->wpAny (aO b.prog b.w) b.A (oD d b.env<|b8 d b.env) (tr b Q B D) b.cE h)
def gK(b:aJ)(d:bk)(A:dZ):Prop:=(∀Q,EG b d A Q)
def Dd(b:aJ)(d:bk)(A:dZ)(a:dD ae):Prop:=(
 ∀(Q:List (ak×a3)) (h:ah) (B:aW) (j:aw) (D:Bool->aw->Prop),aA b Q B j h->A B j D->wpAny (aO b.prog b.w) b.A (oD d b.env a) (tr b Q B D) b.cE h)
def jb(b:aJ)(d:bk)(A:dZ):Prop:=(∀a,Dd b d A a)
def jb.pt{A:dZ}(c:jb b d A):gK b d A:=c _
def CP(b:aJ)(Qs:List bk)(A:eW)(QK:Pos):Prop:=(
 ∀(Q:List (ak×a3)) (h:ah) (B:aW) (j:aw) (D:List af->aw->Prop),aA b Q B j h->A B j D->wpAny (aO b.prog b.w) b.A (spliced<|gh QK<|bQ Qs b.env) (HO b Q B D) b.cE h)
def ho(b:aJ)(Qs:List bk)(A:eW):Prop:=(∀QK,CP b Qs A QK)
def Ej(b:aJ)(N:cF)(A:eN)(Q:List (ak×a3)):Prop:=(
 ∀(h:ah) (B:aW) (j:aw) (y:m5),aA b Q B j h->A y B j->wpAny (aO b.prog b.w) b.A (exec N b.env) (om b Q y) b.cE h)
def hz(b:aJ)(N:cF)(A:eN):Prop:=(∀Q,Ej b N A Q)
def Ed(b:aJ)(N:List cF)(A:eN)(Q:List (ak×a3)):Prop:=(
 ∀(h:ah) (B:aW) (j:aw) (y:m5),aA b Q B j h->A y B j->wpAny (aO b.prog b.w) b.A (execs N b.env) (om b Q y) b.cE h)
def hk(b:aJ)(N:List cF)(A:eN):Prop:=(∀Q,Ed b N A Q)
def bU{QT:Type}{A:dD QT}{D a:QT->ah->Prop}{ay:gT}(c:wpAny ay O A D Qt h)(b:∀g h,D g h->a g h):wpAny ay O A a Qt h:=gQ c b λ_ W f=>f
section
variable{b:aJ}
def ni(a:Nat):b2:=(λB j D=>∃u,B[a]?=Z (Z u)/\D u j)
def oZ(u:af):b2:=(λ_ j D=>D u j)
def y2(o:b.N[a]?=Z f)(p:t_ b.env.scope f)(g:(f==("__debug__" : aB))=aq:=by decide)(q:(f==("__classdict__" : aB))=aq:=by decide):bN b (.Name f QK) (ni a):=by
 intro Q h B j D G c;let⟨@u,d,c⟩:=c;let⟨@k,r,t⟩:=G.loc;let⟨@J,s,x⟩:=t a f u o d p;have i:d4 b Q B D J h:=⟨u,j,G,s,c⟩;rcases x with ⟨e,v⟩|⟨e,m,l,n⟩
 ·exact x8 (wpAny_loadName_local G.ok.kind e r v i) g
 ·rcases e with e|e
  ·exact x8 (wpAny_loadName_cell G.ok.kind e l n i) g
  ·exact x8 (wpAny_loadName_free G.ok.kind e l n i q) g
def KX{a i QK}:bN b (.Constant (.int a) i QK) (oZ<|.int a):=λ_ W W j W G c=>wpAny_Constant_int ⟨.int a,j,G.tok _,⟨_,rfl⟩,c⟩
def Py{e i QK}:bN b (.Constant (.bool e) i QK) (oZ<|.ax e):=λ_ W W j W G c=>Constant_bool ⟨.ax e,j,G,rfl,c⟩
def HR{i QK}:bN b (.Constant .none i QK) (oZ .aT):=λ_ W W j W G c=>Constant_none ⟨.aT,j,G,rfl,c⟩
def d3(b:aJ)(f:aB):Prop:=(b.env.kindOf f=Z .globalImplicit)
def FQ(G:aA b Q B j h)(a:d3 b f)(d:b.aI f=Z J)(c:D J h)(e:(f==("__debug__" : aB))=aq:=by decide):wpAny (aO b.prog b.w) b.A (b8 (.Name f QK) b.env) D Qt h:=
 Ak G.ok.kind a (Calls.loadGlobal_global (by rw[G.ok.glob];exact G.mod.glob.keeps G.eL) d c) e
def kz(G:aA b Q B j h)(a:d3 b f)(d:b.aI f=Y)(e:ez f=Z J)(c:D J h)(g:f ≠ "__name__" := by decide)(i:(f==("__debug__" : aB))=aq:=by decide):wpAny (aO b.prog b.w) b.A (b8 (.Name f QK) b.env) D Qt h:=by
 let⟨@k,t,E⟩:=G.mod.blt;exact Ak G.ok.kind a (Calls.loadGlobal_builtin (by rw[G.ok.glob];exact G.mod.glob.keeps G.eL) d (by rw[G.ok.blt];exact t.keeps G.eL) ((E f g).trans e) c) i
def JB(a:d3 b f)(d:b.aI f=Z J)(s:b7 u J)(e:(f==("__debug__" : aB))=aq:=by decide):bN b (.Name f QK) (oZ u):=
 λ_ W W j W G c=>FQ G a d ⟨u,j,G,s,c⟩ e
def F1(a:d3 b f)(d:b.aI f=Y)(e:ez f=Z J)(s:b7 u J)(g:f ≠ "__name__" := by decide)(h:(f==("__debug__" : aB))=aq:=by decide):bN b (.Name f QK) (oZ u):=
 λ_ W W j W G c=>kz G a d e ⟨u,j,G,s,c⟩ g h
variable{g e:bk}{Q9 Rp:b2}{QK:Pos}
variable{gw i:dZ}{cM:List bk}
def FU(A J:dZ):dZ:=(λB j D=>A B j λm QB=>if m=X then J B QB D else D aq QB)
def AI(A J:dZ):dZ:=(λB j D=>A B j λm QB=>if m=X then D X QB else J B QB D)
def H4(A:dZ):dZ:=(λB j D=>A B j λm QB=>D (!m) QB)
def F2(a:gK b g gw):jb b (.BoolOp .And [g] QK) gw:=by
 intro e Q h B j D G c;refine isTrue_and (bU (a Q h B j D G c) λm f d=>?_);cases m with
 |true=>exact isTrue_and_nil d
 |false=>exact d
def Lj(a:gK b g gw):jb b (.BoolOp .Or [g] QK) gw:=by
 intro e Q h B j D G c;refine isTrue_or (bU (a Q h B j D G c) λm f d=>?_);cases m with
 |false=>exact isTrue_or_nil d
 |true=>exact d
def Pd(f:gK b g gw)(k:jb b (.BoolOp .And (e::cM) QK) i):jb b (.BoolOp .And (g::e::cM) QK) (FU gw i):=by
 intro l Q h B j D G c;refine isTrue_and (bU (f Q h B j _ G c) λm n o=>?_);let⟨@QB,a,d⟩:=o;cases m with
 |true=>exact k l Q n B QB D a d
 |false=>exact⟨QB,a,d⟩
def PA(f:gK b g gw)(k:jb b (.BoolOp .Or (e::cM) QK) i):jb b (.BoolOp .Or (g::e::cM) QK) (AI gw i):=by
 intro l Q h B j D G c;refine isTrue_or (bU (f Q h B j _ G c) λm n o=>?_);let⟨@QB,a,d⟩:=o;cases m with
 |true=>exact⟨QB,a,d⟩
 |false=>exact k l Q n B QB D a d
def PK(a:gK b g gw):gK b (.UnaryOp .Not g QK) (H4 gw):=by
 intro Q h B j D G c;exact isTrue_not (a Q h B j (λm QB=>D (!m) QB) G c)
def GJ(Q9 Rp:b2):b2:=(λB j D=>Q9 B j λf QB=>∃m,f=.ax m/\if m=X then Rp B QB D else D (.ax aq) QB)
def J5(Q9:b2):b2:=(λB j D=>Q9 B j λf QB=>∃m,f=.ax m/\D (.ax<|!m) QB)
def KZ{Q8}{A:b2}(c:bN b g A):bN b (.BoolOp Q8 [g] QK) A:=λQ h B j D G a=>BoolOp_one (c Q h B j D G a)
def JS(i:bN b g Q9)(k:bN b (.BoolOp .And (e::cM) QK) Rp):bN b (.BoolOp .And (g::e::cM) QK) (GJ Q9 Rp):=by
 intro Q h B j D G c;refine BoolOp_and (bU (i Q h B j _ G c) λu l n=>?_);let⟨f,@QB,d,o,a⟩:=n;let⟨@m,rfl,a⟩:=a;cases o;refine lx ?_;cases m with
 |true=>exact k Q l B QB D d a
 |false=>exact⟨.ax aq,QB,d,rfl,a⟩
def LS(d:bN b g Q9):bN b (.UnaryOp .Not g QK) (J5 Q9):=by
 intro Q h B j D G c;refine UnaryOp_ (bU (d Q h B j _ G c) λu l e=>?_);let⟨f,@QB,i,k,a⟩:=e;let⟨@m,rfl,a⟩:=a;cases k;exact not_of (lx ⟨.ax<|!m,QB,i,rfl,a⟩)
def K7(A:dZ)(Q9 Rp:b2):b2:=(λB j D=>A B j λm QB=>if m=X then Q9 B QB D else Rp B QB D)
def Ik(i:gK b m gw)(k:bN b g Q9)(l:bN b e Rp):bN b (.IfExp m g e QK) (K7 gw Q9 Rp):=by
 intro Q h B j D G c;refine wpAny_IfExp (bU (i Q h B j _ G c) λv a n=>?_);let⟨@QB,d,f⟩:=n;cases v with
 |true=>exact k Q a B QB D d f
 |false=>exact l Q a B QB D d f
end
def cT(Qw:Φ)(j:aw)(g:ak)(w:List af):Prop:=(
 jK j g (.lst w)\/
  ∃(o:a3) (QD:Array ae) (r:Nat),Qw.lookup g=Z o/\o.cls=.type "list" /\ o.dict=Y/\o.data=.seq QD r/\QD.size<=sizeLine/\bM w QD.toList)
def cb(Qw:Φ)(j:aw)(g:ak)(w:List af):Prop:=(
 jK j g (.tup w)\/
  ∃(o:a3) (QD:Array ae) (r:Nat),Qw.lookup g=Z o/\o.cls=.type "tuple" /\ o.data=.seq QD r/\QD.size<=sizeLine/\bM w QD.toList)
def IL:ae->Option af
 |.none=>Z .aT
 |.bool e=>Z (.ax e)
 |.int a _=>Z (.int a)
 |.str f _=>Z (.str f)
 |.bytes e _=>Z (.p5 e)
 |.float e _=>Z (.x1 e)
 |.ref g=>Z (.ref g)
 |.type r=>Z (.ty r)
 |_=>Y
def b7.abs{f:af}(s:b7 f J):IL J=Z f:=by
 cases f with
 |aT=>cases s;rfl
 |ax _=>cases s;rfl
 |int _=>let⟨@A,rfl⟩:=s;rfl
 |str _=>let⟨@A,rfl⟩:=s;rfl
 |p5 _=>let⟨@A,rfl⟩:=s;rfl
 |x1 _=>let⟨@A,rfl⟩:=s;rfl
 |ref _=>cases s;rfl
 |ty _=>cases s;rfl
def b7.inj{f:af}(s:b7 f J)(p:b7 H J):f=H:=Option.some.inj (s.abs.symm.trans p.abs)
theorem bM.inj:∀{w QJ:List af}{QR:List ae},bM w QR->bM QJ QR->w=QJ
 |_,_,_,.nil,.nil=>rfl
 |_,_,_,.cons s A,.cons Ra QZ=>by rw[s.inj Ra,bM.inj A QZ]
section
variable{b:aJ}{Q:List (ak×a3)}{B:aW}{j:aw}{h:ah}{g:ak}{w QJ:List af}
def cT.of(c:j g=Z (.lst w)):cT Qw j g w:=.inl (.inl c)
def cb.of(c:j g=Z (.tup w)):cb Qw j g w:=.inl (.inl c)
def aA.list(G:aA b Q B j h)(c:cT b.K j g w):∃QD:List ae,bM w QD/\PlainL h.heap g QD.toArray/\w.length<=sizeLine:=by
 rcases c with c|⟨o,QD,r,a,e,f,Qx,i,s⟩
 ·let@⟨z,⟨QD,@r,s,d⟩⟩:=c.ok G.a0;exact⟨QD,s,⟨_,r,d,rfl,rfl,rfl⟩,z⟩
 ·refine⟨QD.toList,s,⟨o,r,G.oH g o a,e,f,by simpa using Qx⟩,?_⟩;have d:=s.length;simp only[dp]at d;lia
def aA.tuple(G:aA b Q B j h)(c:cb b.K j g w):∃QD:List ae,bM w QD/\nQ h.heap g QD.toArray/\w.length<=sizeLine:=by
 rcases c with c|⟨o,QD,r,a,e,Qx,i,s⟩
 ·let@⟨f,⟨@QD,s,q⟩⟩:=c.ok G.a0;exact⟨QD,s,q.tup,f⟩
 ·refine⟨QD.toList,s,⟨o,G.oH g o a,e,r,by simpa using Qx⟩,?_⟩;have d:=s.length;simp only[dp]at d;lia
def aA.Ny(G:aA b Q B j h)(c:cT b.K j g w)(T:cT b.K j g QJ):w=QJ:=by
 let⟨@QD,s,⟨o,@r,d,W,W,v⟩,W⟩:=G.list c;let⟨@y,Ra,⟨R,@f,a,W,W,e⟩,W⟩:=G.list T;rw[d]at a;cases a;rw[v]at e;injection e with Q_ _;have:QD=y:=by simpa using congrArg Array.toList Q_
 subst this;exact s.inj Ra
def aA.vy(G:aA b Q B j h)(c:cb b.K j g w)(T:cb b.K j g QJ):w=QJ:=by
 let⟨@QD,s,⟨@o,d,W,⟨@r,v⟩⟩,W⟩:=G.tuple c;let⟨@y,Ra,⟨@R,a,W,⟨@f,e⟩⟩,W⟩:=G.tuple T;rw[d]at a;cases a;rw[v]at e;injection e with Q_ _;have:QD=y:=by simpa using congrArg Array.toList Q_
 subst this;exact s.inj Ra
end
abbrev aJ.j5(b:aJ)(Qt:ae->ah->Prop):aJ:={b with cE:=Qt}
abbrev aJ.m1(b:aJ):aJ:=b.j5 λ_ _=>False
def aJ.Ok.j5(ok:b.Ok)(Qt:ae->ah->Prop):(b.j5 Qt).Ok:=
 ⟨ok.mod,ok.kind,ok.glob,ok.blt,ok.above,ok.inj,ok.has,ok.n7,ok.hd,ok.frames,ok.rl,ok.vL,ok.bs,ok.kk,ok.o6,ok.o1,ok.iv,ok.mn⟩
def aJ.Ok.md(ok:(b.j5 Qt).Ok):b.Ok:=
 ⟨ok.mod,ok.kind,ok.glob,ok.blt,ok.above,ok.inj,ok.has,ok.n7,ok.hd,ok.frames,ok.rl,ok.vL,ok.bs,ok.kk,ok.o6,ok.o1,ok.iv,ok.mn⟩
section
variable{b:aJ}{Q:List (ak×a3)}{B:aW}{j:aw}{h:ah}{Qt:ae->ah->Prop}
def aA.j5(G:aA b Q B j h)(Qt:ae->ah->Prop):aA (b.j5 Qt) Q B j h:=⟨G.ok.j5 Qt,G.os,G.bare,G.base,G.loc,G.cell,G.free,G.i6,G.pin,G.a0,G.len⟩
def aA.md(G:aA (b.j5 Qt) Q B j h):aA b Q B j h:=⟨G.ok.md,G.os,G.bare,G.base,G.loc,G.cell,G.free,G.i6,G.pin,G.a0,G.len⟩
def om.md{y:m5}{C:Flow}(c:om (b.j5 Qt) Q y C Qp):om b Q y C Qp:=by
 cases C with
 |next=>let⟨a,@F,G,p⟩:=c;exact⟨a,F,G.md,p⟩
 |brk=>let⟨a,@F,G,p⟩:=c;exact⟨a,F,G.md,p⟩
 |cont=>let⟨a,@F,G,p⟩:=c;exact⟨a,F,G.md,p⟩
 |ret J=>let⟨u,a,@F,G,s,p⟩:=c;exact⟨u,a,F,G.md,s,p⟩
def hk.m1{N:List cF}{A:eN}(c:hk b.m1 N A):hk b N A:=λQ h B j y G a=>
 gQ (c Q h B j y (G.j5 _) a) (λ_ W p=>p.md) λ_ W d=>False.elim d
end
section
variable{b:aJ}{N:cF}{cM:List cF}{A J:eN}{d:bk}{Rq:b2}{QK:Pos}
def IQ:eN:=(λy B j=>y.bg B j)
def zr(A J:eN):eN:=(λy B j=>A {y with bg:=J y} B j)
def Ku:hk b [] IQ:=λ_ W B j W G c=>t2 ⟨B,j,G,c⟩
def F8(t:hz b N A)(E:hk b cM J):hk b (N::cM) (zr A J):=by
 intro Q h B j y G c;refine B7 (bU (t Q h B j {y with bg:=J y} G c) λC a p=>?_);cases C with
 |next=>
  let⟨d,@F,e,p⟩:=p;exact E Q a d F y e p
 |ret u=>exact p
 |brk=>exact p
 |cont=>exact p
def LC(t:hz b N A):hk b [N] A:=by
 intro Q h B j y G c;refine B7 (bU (t Q h B j y G c) λC a p=>?_);cases C with
 |next=>exact t2 p
 |ret u=>exact p
 |brk=>exact p
 |cont=>exact p
def aA.quiet(G:aA b Q B j h):interactive b.env=aq:=by simp[interactive,G.ok.kind]
def Kc(Rq:b2):eN:=(λy B j=>Rq B j λ_ QB=>y.bg B QB)
def LG(a:bN b d Rq)(Qx:mE d Y QK.line b.env=pure aq:=by rfl):hz b (.Expr d QK) (Kc Rq):=by
 intro Q h B j y G c;exact wpAny_Expr_any (bU (a Q h B j _ G c) λu i ⟨f,QB,e,k,g⟩=>⟨B,QB,e,g⟩) G.quiet Qx
def OR(Rq:b2):eN:=(λy B j=>Rq B j y.et)
def K2(a:bN b d Rq):hz b (.Return (Z d) QK) (OR Rq):=by
 intro Q h B j y G c;exact wpAny_Return_some (bU (a Q h B j _ G c) λu k ⟨f,QB,e,g,i⟩=>⟨f,B,QB,e,g,i⟩)
def N1(m:dZ)(A J:eN):eN:=(λy B j=>m B j λe QB=>if e=X then A y B QB else J y B QB)
def Hr{g e:List cF}(i:gK b m RC)(k:hk b g A)(l:hk b e J):hz b (.If m g e QK) (N1 RC A J):=by
 intro Q h B j y G c;refine wpAny_If (bU (i Q h B j _ G c) λv a n=>?_);let⟨@QB,d,f⟩:=n;cases v with
 |true=>exact k Q a B QB y d f
 |false=>exact l Q a B QB y d f
def LI:eN:=(λ_ W W=>False)
def Pg:hz b N LI:=λ_ W W W W W c=>c.elim
end
abbrev fV:=af->aW->aw->(aW->aw->Prop)->Prop
abbrev iR:=List af->aW->aw->(aW->aw->Prop)->Prop
def Dn(b:aJ)(c:bk)(A:fV)(Q:List (ak×a3)):Prop:=(
 ∀(h:ah) (B:aW) (j:aw) (u:af) (J:ae) (D:aW->aw->Prop),aA b Q B j h->b7 u J->A u B j D->
  wpAny (aO b.prog b.w) b.A (hC c b.env J) (λ_ Qp=>∃a F,aA b Q a F Qp/\D a F) b.cE h)
def iD(b:aJ)(a:bk)(A:fV):Prop:=(∀Q,Dn b a A Q)
def Cs(b:aJ)(c:List bk)(A:iR)(Q:List (ak×a3)):Prop:=(
 ∀(h:ah) (B:aW) (j:aw) (U:List af) (QR:List ae) (D:aW->aw->Prop),aA b Q B j h->bM U QR->A U B j D->
  wpAny (aO b.prog b.w) b.A (Bl ((eV c b.env).map (·.2)) QR) (λ_ Qp=>∃a F,aA b Q a F Qp/\D a F) b.cE h)
def nx(b:aJ)(a:List bk)(A:iR):Prop:=(∀Q,Cs b a A Q)
abbrev x6:=af->af->af->aw->(aw->Prop)->Prop
def w8(b:aJ)(A:x6):Prop:=(
 ∀(Q:List (ak×a3)) (h:ah) (B:aW) (j:aw) (o a u:af) (c d J:ae) (D:aw->Prop),aA b Q B j h->b7 o c->b7 a d->b7 u J->A o a u j D->
  wpAny (aO b.prog b.w) b.A (sm c d J) (λ_ Qp=>∃F,aA b Q B F Qp/\D F) b.cE h)
section
variable{b:aJ}{QK:Pos}
def vG(a:Nat):fV:=(λu B j D=>D (B.set a<|Z u) j)
def HI(d:b.N.Nodup)(S:b.N[a]?=Z f)(e:jh b.env.scope f)(g:b.fn f=X\/b.env.scope.names.lookup f=Z .local:=by first|exact .inl rfl|exact .inr rfl|assumption):iD b (.Name f QK) (vG a):=by
 intro Q h B j u J D G s c;exact Bg (BB G d S e s (λQp i=>⟨_,j,i,c⟩) g)
def Ls:iR:=(λU B j D=>U=[]/\D B j)
def H7(A:fV)(J:iR):iR:=(λU B j D=>∃u s,U=u::s/\A u B j λa F=>J s a F D)
def KS:nx b [] Ls:=by
 intro Q h B j U QR D G s c;let@⟨d,c⟩:=c;subst d;cases s;exact assignInOrder_nil ⟨B,j,G,c⟩
def Hy{A:fV}{J:iR}(t:iD b d A)(E:nx b Qs J)(Qx:(eV (d::Qs) b.env).map (·.2)=hC d b.env::(eV Qs b.env).map (·.2):=by rfl):nx b (d::Qs) (H7 A J):=by
 intro Q h B j U QR D G s c;let⟨u,@l,a,c⟩:=c;subst a;cases s with
 |cons s e=>
  rw[Qx];refine assignInOrder_cons (bU (t Q h B j _ _ _ G s c) λ_ f g=>?_);let⟨Ry,@QB,i,k⟩:=g;exact E Q f Ry QB _ _ D i e k
def Gu(Qw:Φ)(r:Nat)(A:iR):fV:=(λu B j D=>∃g w,u=.ref g/\cb Qw j g w/\w.length=r/\A w B j D)
def Mu{A:iR}(i:b.calm=X)(c:nx b Qs A)(k:(eV Qs b.env).length=r:=by rfl)(l:(eV Qs b.env).findIdx? (·.1)=Y:=by rfl):iD b (.Tuple Qs n QK) (Gu b.K r A):=by
 intro Q h B j u J D G s a;let⟨g,@w,m,p,q,a⟩:=a;subst m;cases s;let⟨@QD,f,bf,x⟩:=G.tuple p;refine assign_Tuple_tuple (G.ok.hd i) bf (by simp[k,<-q,f.length]) l λT t=>?_;have v:aA b Q B j {h with heap:=T}:=G.kept (QZ:=h.toks) λe o d=>t e o (c1<|b1 d) d;exact c Q _ B j w _ D v ⇑f a
def HS(i b:b2)(A:x6):fV:=(λu B j D=>i B j λo QB=>b B QB λa QN=>A o a u QN λc=>D B c)
def PC{o a:bk}{i k:b2}{A:x6}(l:bN b o i)(S:bN b a k)(Qx:w8 b A)(m:∀u,hC (.Subscript o a QK) b.env u=(do
   let d <-holding [u] (b8 o b.env)
   let e <-holding [u,d] (b8 a b.env)
   standAt QK
   holding [u,d,e] (sm d e u)
   release [u,d,e] []):=by intro W;rfl):iD b (.Subscript o a QK) (HS i k A):=by
 intro Q h B j u J D G s c;rw[m];refine av (fc<|bU (l Q h B j _ G c) λd n g=>?_);let⟨f,@QB,p,q,r⟩:=g;refine av (fc<|bU (S Q n B QB _ p r) λe t g=>?_);let⟨H,@QN,v,w,x⟩:=g;refine av (sU<|av<|fc<|bU (Qx Q t B QN f H u d e J _ v q w s x) λ_ E g=>?_);let⟨@y,z,C⟩:=g;exact wpAny_release ⟨B,y,z,C⟩
def vH(Rq:b2)(L:fV):eN:=(λy B j=>Rq B j λf QB=>L f B QB y.bg)
def Nv{L:fV}(a:bN b d Rq)(e:iD b QY L)(Qx:Aq [QY] d QK.line b.env=pure aq:=by rfl)(g:CW [QY] d b.env=pure Y:=by rfl)(t:(eV [QY] b.env).map (·.2)=[hC QY b.env]:=by rfl):hz b (.Assign [QY] d QK) (vH Rq L):=by
 intro Q h B j y G c;refine wpAny_Assign_stores (bU (a Q h B j _ G c) λu i ⟨f,QB,k,l,m⟩=>?_) Qx g;rw[t];exact bU (e Q i B QB f u _ k l m) λ_ n p=>p
def OF{i:Pos}(e:b.N.Nodup)(S:b.N[a]?=Z f)(g:jh b.env.scope f)(k:bN b d Rq)(Qx:mE d (Z<|.Name f i) QK.line b.env=pure aq:=by rfl)(l:b.fn f=X\/b.env.scope.names.lookup f=Z .local:=by first|exact .inl rfl|exact .inr rfl|assumption):
  hz b (.Assign [.Name f i] d QK) (vH Rq<|vG a):=by
 intro Q h B j y G c;refine wpAny_Assign_Name (bU (k Q h B j _ G c) λu q ⟨H,QB,m,n,o⟩=>?_) Qx;exact BB m e S g n (λr p=>⟨_,QB,p,o⟩) l
def IE(m:dZ)(Rp:eN):eN:=(λy B j=>∃W:Nat->aW->aw->Prop,(∃k,W k B j)/\∀k B j,W k B j->
 m B j λe QB=>if e=X then ∃Q2:aW->aw->Prop,(∀a F,Q2 a F->∃b,b<k/\W b a F)/\Rp {y with bg:=Q2,bW:=Q2,eL:=y.bg} B QB else y.bg B QB)
def N0(q:qK (aO b.prog b.w) b.A b.env b.cE)(x:gK b m RC)(z:hk b Rx Rp):hz b (.While m Rx [] QK) (IE RC Rp):=by
 intro Q h B j y G c;let⟨@W,⟨@D,E⟩,turn⟩:=c;refine wpAny_While (codeAny_whileLoop (λr Qp=>∃s F,aA b Q s F Qp/\W r s F) ?_ D ⟨B,j,G,E⟩);rintro r H ⟨Ry,QB,I,J⟩;refine mY q (bU (x Q H Ry QB _ I<|turn r Ry QB J) λe L M=>?_);let⟨@QN,t,f⟩:=M;cases e with
 |true=>
  let⟨@Q2,v,f⟩:=f;rw[aE rfl];refine mY q (bU (z Q L Ry QN _ t f) λC N g=>?_);cases C with
  |next=>
   let⟨a,@d,i,k⟩:=g;let⟨@n,o,p⟩:=v a d k;exact⟨n,o,a,d,i,p⟩
  |cont=>
   let⟨a,@d,i,k⟩:=g;let⟨@n,o,p⟩:=v a d k;exact⟨n,o,a,d,i,p⟩
  |brk=>exact g
  |ret u=>exact g
 |false=>
  rw[aK dv];exact t2 ⟨Ry,QN,t,f⟩
end
structure eP where
 go:Nat->aw->Prop
 qH:Nat->aw->af->aw->Prop
 stop:Nat->aw->Prop
def ja(b:aJ)(Q:List (ak×a3))(j:aw)(e:ak):Prop:=(
 j e=Y/\e≠b.env.locals/\e∉b.ab/\(e∈b.ex\/b.eF.heap.objs.size<=e)/\(∀f m,b.env.cells.lookup f=Z m->m≠e)/\∀q∈b.jP++Q,q.1≠e)
def aA.rK(G:aA b Q B j h)(a:h.heap.objs.size<=e)(g:F e=Y):ja b Q F e:=by
 refine⟨g,ng<|e5 G.lt a,G.NR a,.inr<|eG G.iI a,λf m d c=>?_,λq i c=>?_⟩
 ·let⟨@u,p⟩:=G.cell f m d;exact absurd (e5 p.lt (by rw[c];exact a)) (jU _)
 ·exact absurd (e5 (b1 (G.pin q i).1) (by rw[c];exact a)) (jU _)
structure qi(Qr:bz)(l:bc)(Qw:Φ)(QY:bk)(Rn:eP)(bY:List ak)(it:ak)(i:Nat->aV->Prop):Prop where
 mem:it∈bY
 obj:∀a c,i a c->∀e∈bY,∃o,c.get? e=Z o/\∀u,o.data≠.cell u
 keep:∀a c T,i a c->(∀e∈bY,∀o,c.get? e=Z o->T.get? e=Z o)->i a T
 item:∀(b:aJ),b.prog=Qr->b.w=l->b.K=Qw->b.calm=X->∀(a:Nat) (Q:List (ak×a3)) (h:ah) (B:aW) (j:aw) (Qt:ae->ah->Prop),aA b Q B j h->(∀e∈bY,ja b Q j e)->i a h.heap->Rn.go a j->
  wpAny (aO Qr l) b.A (gC<|.ref it) (λs s1=>∃J,s=Z J/\
   wpAny (aO Qr l) b.A (qu QY (.ref it) J) (λ_ s2=>∃f F,aA b Q B F s2/\b7 f J/\Rn.qH a j f F/\i (a+1) s2.heap/\∀e∈bY,F e=Y) Qt s1) Qt h
 done:∀(b:aJ),b.prog=Qr->b.w=l->b.K=Qw->b.calm=X->∀(a:Nat) (Q:List (ak×a3)) (h:ah) (B:aW) (j:aw) (Qt:ae->ah->Prop),aA b Q B j h->(∀e∈bY,ja b Q j e)->i a h.heap->Rn.stop a j->
  wpAny (aO Qr l) b.A (gC<|.ref it) (λs s1=>s=Y/\aA b Q B j s1) Qt h
 self:∀(O:bl) (a:Nat) (h:ah) (D:ae->ah->Prop) (Qt:ae->ah->Prop),i a h.heap->D (.ref it) h->wpAny (aO Qr l) O (ro<|.ref it) D Qt h
abbrev cW:=aW->aw->(eP->aw->Prop)->Prop
def y_(b:aJ)(Q:List (ak×a3))(B:aW)(QY:bk)(Qu:eP->aw->Prop)(c:ae)(a:ah):Prop:=(
 ∃(it:ak) (bY:List ak) (i:Nat->aV->Prop) (Rn:eP) (F:aw),c=.ref it/\aA b Q B F a/\qi b.prog b.w b.K QY Rn bY it i/\i 0 a.heap/\(∀e∈bY,ja b Q F e)/\Qu Rn F)
def C7(b:aJ)(QY Rl:bk)(eT:cW)(Q:List (ak×a3)):Prop:=(
 ∀(h:ah) (B:aW) (j:aw) (Qu:eP->aw->Prop),aA b Q B j h->eT B j Qu->
  wpAny (aO b.prog b.w) b.A (b8 Rl b.env) (λu a=>wpAny (aO b.prog b.w) b.A (ro u) (y_ b Q B QY Qu) b.cE a) b.cE h)
def jM(b:aJ)(QY Rl:bk)(eT:cW):Prop:=(∀Q,C7 b QY Rl eT Q)
def wI{ay:gT}{Qt:ae -> ah -> Prop}{it:ak}{o:a3}{r:String}{U:Array ae}{D:Unit -> ah -> Prop}(b:h.heap.get? it=Z o)(d:o.cls=.type r)(e:o.data=.fields U)(f:["enumerate", "zip", "dict_itemiterator", "dict_reverseitemiterator", "odict_iterator", "itertools.zip_longest", "itertools.pairwise"].contains r=aq)(a:D () h): wpAny ay O (qu QY (.ref it) J) D Qt h:=by
  unfold qu;cases QY <;> first
    | exact aS a
    | (cases J <;> first
        | exact aS a
        | (refine av (wpAny_load b ?_)
           rw [d,e];show wpAny ay O (if (["enumerate", "zip", "dict_itemiterator", "dict_reverseitemiterator", "odict_iterator", "itertools.zip_longest", "itertools.pairwise"].contains r&&U[0]? == Z (jN _))=X then _ else _) D Qt h;rw [aK (by intro c; rw [f,Bool.false_and]at c; cases c)];exact aS a))
def rj(Qw:Φ)(g:ak):eP:=(
 ⟨λa j=>∃w f,cT Qw j g w/\w[a]?=Z f,λa j f F=>F=j/\∀w,cT Qw j g w->w[a]?=Z f,λa j=>∃w,cT Qw j g w/\w.length<=a⟩)
def rF(Qw:Φ)(g:ak):eP:=(
 ⟨λa j=>∃w f,cb Qw j g w/\w[a]?=Z f,λa j f F=>F=j/\∀w,cb Qw j g w->w[a]?=Z f,λa j=>∃w,cb Qw j g w/\w.length<=a⟩)
def rL(R:Int)(r:Nat):eP:=(⟨λa W=>a<r,λa j f F=>F=j/\f=.int (R+a),λa W=>r<=a⟩)
theorem LA(g it:ak):qi Qr l Qw QY (rj Qw g) [it] it (λa c=>c.IsListIter it g a) where
 mem:=by simp
 obj:=λa c N e i=>by
  have d:e=it:=by simpa using i
  subst d;let⟨@o,d,m,v⟩:=N;exact⟨o,d,λu H=>by rw[v]at H;cases H⟩
 keep:=λa c T N n=>N.at λo d=>n it ↥0 o d
 item:=by
  intro b r s t I a Q h B j Qt G k N x;subst r s t;let⟨w,@f,p,y⟩:=x;let⟨@QD,z,q,M⟩:=G.list p;let⟨@J,O,P⟩:=z.get y;let@⟨A,C,R,D,E,F⟩:=k it ↥0;refine CD N q.isList (x:=J) ⇑O λT L cn=>?_;have S:aA b Q B j {h with heap:=T}:=G.turned (QZ:=h.toks) (λe o i d=>(cn.2 e i).trans d) A C D E F;let⟨@o,d,m,v⟩:=id L;exact⟨J,rfl,wI (h:={h with heap:=T}) d m v ∅ ⟨f,j,S,P,⟨rfl,λQJ U=>by rw[G.Ny U p];exact y⟩,L,λe i=>(k e i).1⟩⟩
 done:=by
  intro b r s t I a Q h B j Qt G k N x;subst r s t;let⟨@w,p,y⟩:=x;let⟨@QD,z,q,M⟩:=G.list p;let@⟨A,C,R,D,E,F⟩:=k it ↥0;have am:=z.length;exact CQ (G.ok.hd I) N q.isList (by simp;lia) λT al=>⟨rfl,G.turned (QZ:=h.toks) (λe o i d=>al e o i d) A C D E F⟩
 self:=λ_ W W W W N c=>wpAny_pyIter_listiter N c
theorem Ly(g it:ak):qi Qr l Qw QY (rF Qw g) [it] it (λa c=>c.IsTupleIter it g a) where
 mem:=by simp
 obj:=λa c N e i=>by
  have d:e=it:=by simpa using i
  subst d;let⟨@o,d,m,v⟩:=N;exact⟨o,d,λu H=>by rw[v]at H;cases H⟩
 keep:=λa c T N n=>N.at λo d=>n it ↥0 o d
 item:=by
  intro b r s t I a Q h B j Qt G k N x;subst r s t;let⟨w,@f,p,y⟩:=x;let⟨@QD,z,q,M⟩:=G.tuple p;let⟨@J,O,P⟩:=z.get y;let@⟨A,C,R,D,E,F⟩:=k it ↥0;refine wpAny_pyNext_tuple_item N (show h.heap.IsTuple g QD.toArray from q) (x:=J) ⇑O λT L cn=>?_;have S:aA b Q B j {h with heap:=T}:=G.turned (QZ:=h.toks) (λe o i d=>(cn.2 e i).trans d) A C D E F;let⟨@o,d,m,v⟩:=id L;exact⟨J,rfl,wI (h:={h with heap:=T}) d m v ∅ ⟨f,j,S,P,⟨rfl,λQJ U=>by rw[G.vy U p];exact y⟩,L,λe i=>(k e i).1⟩⟩
 done:=by
  intro b r s t I a Q h B j Qt G k N x;subst r s t;let⟨@w,p,y⟩:=x;let⟨@QD,z,q,M⟩:=G.tuple p;let@⟨A,C,R,D,E,F⟩:=k it ↥0;have am:=z.length;exact wpAny_pyNext_tuple_end (G.ok.hd I) N (show h.heap.IsTuple g QD.toArray from q) (by simp;lia) λT al=>⟨rfl,G.turned (QZ:=h.toks) (λe o i d=>al e o i d) A C D E F⟩
 self:=λ_ W W W W N c=>wpAny_pyIter_tupleiter N c
theorem Mj(it:ak)(R:Int)(r:Nat):qi Qr l Qw QY (rL R r) [it] it (λa c=>IsRangeIter c it (R+(a:Nat)*1) ((r:Int)-(a:Nat)) 1) where
 mem:=by simp
 obj:=λa c N e f=>by
  have d:e=it:=by simpa using f
  subst d;exact⟨_,N,λu C=>by
   have D:Data.fields _=Data.cell u:=C;cases D⟩
 keep:=λa c T N n=>n it ↥0 _ N
 item:=by
  intro b i k m p a Q h B j Qt G g N q;subst i k m;let@⟨s,t,E,v,x,y⟩:=g it ↥0;have W:=kM.range (prog:=b.prog) (w:=b.w) (G.ok.hd p) it R 1 r;refine W.item a h _ _ q N λu T Q1 F z H=>?_;let⟨@A,rfl⟩:=F;have I:aA b Q B j {h with heap:=T,toks:=Q1}:=G.turned (λe o f d=>H e o ⇑f d) s t v x y;refine⟨_,rfl,wI (h:={h with heap:=T,toks:=Q1}) (r := "range_iterator") z rfl rfl ∅ ⟨.int<|R+a,j,I,⟨A,?_⟩,⟨rfl,rfl⟩,z,λe f=>(g e f).1⟩⟩;rw[E8]
 done:=by
  intro b i k m p a Q h B j Qt G g N q;subst i k m;let@⟨s,t,E,v,x,y⟩:=g it ↥0;exact wpAny_pyNext_range_end (G.ok.hd p) N (by have:r<=a:=q;lia) λT J=>⟨rfl,G.turned (QZ:=h.toks) (λe o f d=>J e o f d) s t v x y⟩
 self:=λ_ U U U U N c=>wpAny_pyIter_rangeiter N c
section
variable{b:aJ}{QY:bk}
def JT{Qu:eP->aw->Prop}{R S:Int}{A J u:hH}{Q1:Nat}(G:aA b Q B j h)(t : -(2^62)<=R)(E:R<2^62)(c : -(2^62)<=S)(f:S<2^62)(p:Qu (rL R (S-R).toNat) j):wpAny (aO b.prog b.w) b.A (ro<|.ref h.heap.objs.size) (y_ b Q B QY Qu) Qt {h with heap:=h.heap.push {cls:=.type "range",data:=.fields #[.int R A,.int S J,.int 1 u]},toks:=Q1}:=by
 refine wpAny_pyIter_range (IsRange.new ..) (small_one t E c f) ?_;have a:aA b Q B j {h with heap:=h.heap.push {cls:=.type "range",data:=.fields #[.int R A,.int S J,.int 1 u]},toks:=Q1}:=G.kept λe o d=>b6 _ d;refine⟨(h.heap.push {cls:=.type "range",data:=.fields #[.int R A,.int S J,.int 1 u]}).objs.size,[(h.heap.push {cls:=.type "range",data:=.fields #[.int R A,.int S J,.int 1 u]}).objs.size],_,_,j,rfl,
  a.kept (QZ:=Q1) λe o d=>b6 _ d,Mj _ R (S-R).toNat,?_,λe g=>?_,p⟩
 ·have i:R+((0:Nat):Int)*1=R:=by simp
  have k:(((S-R).toNat:Nat):Int)-((0:Nat):Int)=bq.Range.rangeSize R S 1:=by rw[rangeSize_one];split<;>lia
  show IsRangeIter _ _ (R+((0:Nat):Int)*1) ((((S-R).toNat:Nat):Int)-((0:Nat):Int)) 1;rw[i,k];exact c_ _ rfl
 ·have d:e=(h.heap.push {cls:=.type "range",data:=.fields #[.int R A,.int S J,.int 1 u]}).objs.size:=by simpa using g
  subst d;exact a.rK (a5 _) (a.a0.fresh<|a5 _)
def G3(Q9:eW):cW:=(λB j Qu=>Q9 B j λU QB=>∃i:Int,U=[.int i] /\ -(2^62)<=i/\i<2^62/\Qu (rL 0 i.toNat) QB)
def Lg{g:bk}{Q9:eW}{q:Pos}(e:d3 b "range")(f:b.aI "range" = Y)(k:ho b [g] Q9)(Qx:bQ [g] b.env=[(aq,b8 g b.env)]:=by rfl):jM b QY (.Call (.Name "range" q) [g] [] QK) (G3 Q9):=by
 intro Q h B j Qu G c;refine Call_ (kz G e f boot_range<|n6 (bU (k QK Q h B j _ G c) λQR r ⟨U,QB,l,m,a⟩=>?_) Qx rfl);let⟨@i,d,a,n,p⟩:=a;subst d;cases m with
 |cons s o=>
  cases o;let⟨@A,rfl⟩:=s;exact call_range_1 (JT l ⋯ ⋯ a n ⇑p)
def ED(eT:cW)(L:fV)(Rp:eN):eN:=(λy B j=>eT B j λRn QB=>∃W:Nat->Nat->aW->aw->Prop,(∃k,W 0 k B QB)/\∀a k B j,W a k B j->
 (Rn.stop a j/\y.bg B j)\/(Rn.go a j/\∃Q2:aW->aw->Prop,(∀b F,Q2 b F->∃c,c<k/\W (a+1) c b F)/\∀f F,Rn.qH a j f F->L f B F λd QN=>Rp {y with bg:=Q2,bW:=Q2,eL:=y.bg} d QN))
def lN(bY:List ak)(c:aV):List (ak×a3):=(bY.filterMap λe=>(c.get? e).map λo=>(e,o))
def sx{o:a3}(a:e∈bY)(d:c.get? e=Z o):(e,o)∈lN bY c:=tp.mpr ⟨e,a,by rw[d];rfl⟩
def Dr{q:ak×a3}(a:q∈lN bY c):q.1∈bY/\c.get? q.1=Z q.2:=by
 let⟨@e,b,d⟩:=tp.mp a;cases p:c.get? e with
 |none=>rw[p]at d;cases d
 |some o=>
  rw[p]at d;have f:(e,o)=q:=Option.some.inj d;subst f;exact⟨b,p⟩
def aA.pinned(G:aA b Q B j h)(g:∀e∈bY,ja b Q j e)(i:∀e∈bY,∃o,h.heap.get? e=Z o/\∀u,o.data≠.cell u):aA b (Q++lN bY h.heap) B j h:=
 G.nN λq k=>(dG.mp k).elim (λa=>G.pin q<|dR _ a) λa=>by
  let@⟨c,d⟩:=Dr a;let@⟨l,m,n,_⟩:=g q.1 c;let⟨@o,f,v⟩:=i q.1 c;rw[d]at f;cases f;exact⟨d,l,m,n,v⟩
def aA.yp{bo:List (ak×a3)}(G:aA b (Q++bo) B j h):aA b Q B j h:=G.nN λq a=>G.pin q (dR _<|dO _ a)
def OZ{Rl:bk}{eT:cW}{L:fV}(z:qK (aO b.prog b.w) b.A b.env b.cE)(U:b.calm=X)(S:jM b QY Rl eT)(bd:iD b QY L)(g:hk b Rx Rp)(Qx:∀f,k8 Rl b.env f=pure f:=by intro O;rfl):hz b (.For QY Rl Rx [] QK) (ED eT L Rp):=by
 intro Q h B j y G c;refine wpAny_For (bU (S Q h B j _ G c) λu f2 t=>bU t λf4 f8 E=>?_) Qx;let⟨it,bY,i,Rn,@QN,d,be,Qq,bi,al,⟨@W,⟨@bm,bn⟩,turn⟩⟩:=E;subst d;have N:∀{F:aw},(∀e∈bY,F e=Y)->∀e∈bY,ja b Q F e:=λbs e g=>⟨bs e g,(al e g).2⟩;refine codeAny_forLoop_any (λr Qp=>∃a D F,aA b Q D F Qp/\i a Qp.heap/\(∀e∈bY,F e=Y)/\W a r D F) ?_ bm ⟨0,B,QN,be,bi,λe g=>(al e g).1,bn⟩;rintro r am ⟨a,H,M,an,ap,as,bv⟩;rcases turn a r H M bv with ⟨stop,ca⟩|⟨go,Q2,cd,step⟩
 ·refine mY z (bU (Qq.done b rfl rfl rfl U a Q am H M b.cE an (N as) ap stop) λs ce x=>?_);let@⟨P,ch⟩:=x;subst P;exact t2 ⟨H,M,ch,ca⟩
 ·refine mY z (bU (Qq.item b rfl rfl rfl U a Q am H M b.cE an (N as) ap go) λs ce x=>?_);let⟨@J,P,ci⟩:=x;subst P;refine mY z (bU ci λ_ a1 x=>?_);let⟨f,@a2,cl,co,cr,R,cs⟩:=x;have db:=cl.pinned (N cs) (Qq.obj _ _ R);refine mY z (bU (bd _ a1 H a2 f J _ db co<|step f a2 cr) λ_ ds x=>?_);let⟨dL,@eq,ev,ex⟩:=x;refine mY z (bU (g _ ds dL eq _ ev ex) λC T q=>?_);have again:∀{m:aW}{n:aw},aA b (Q++lN bY a1.heap) m n T->Q2 m n->∃k,k<r/\∃a D F,aA b Q D F T/\i a T.heap/\(∀e∈bY,F e=Y)/\W a k D F:=λ{m n} p I=>by
   let⟨@fd,fn,fr⟩:=cd m n I;refine⟨fd,fn,a+1,m,n,p.yp,Qq.keep _ _ _ R λe g o d=>(p.pin (e,o)<|dR _<|dR _<|sx g d).1,λe g=>?_,fr⟩;let⟨@o,d,v⟩:=Qq.obj _ _ R e g;exact (p.pin (e,o)<|dR _<|dR _<|sx g d).2.1
  cases C with
  |next=>let⟨m,@n,p,I⟩:=q;exact again p I
  |cont=>let⟨m,@n,p,I⟩:=q;exact again p I
  |brk=>let⟨m,@n,p,q⟩:=q;exact⟨m,n,p.yp,q⟩
  |ret u=>let⟨f0,m,@n,p,f1,q⟩:=q;exact⟨f0,m,n,p.yp,f1,q⟩
end
abbrev bS:=af->af->aw->cz->Prop
variable{Ra s:bS}
def dI(b:aJ)(C:ae->ae->dD ae)(s:bS):Prop:=(
 ∀(Q:List (ak×a3)) (h:ah) (B:aW) (j:aw) (f H:af) (u J:ae) (D:cz),aA b Q B j h->b7 f u->b7 H J->s f H j D->
  wpAny (aO b.prog b.w) b.A (C u J) (d4 b Q B D) b.cE h)
def w0(b:aJ)(C:ae->dD ae)(s:af->aw->cz->Prop):Prop:=(
 ∀(Q:List (ak×a3)) (h:ah) (B:aW) (j:aw) (f:af) (u:ae) (D:cz),aA b Q B j h->b7 f u->s f j D->
  wpAny (aO b.prog b.w) b.A (C u) (d4 b Q B D) b.cE h)
def ep(b:aJ)(C:ae)(s:List af->aw->cz->Prop):Prop:=(
 ∀(Q:List (ak×a3)) (h:ah) (B:aW) (j:aw) (w:List af) (QR:List ae) (D:cz),aA b Q B j h->bM w QR->s w j D->
  wpAny (aO b.prog b.w) b.A (call C QR) (d4 b Q B D) b.cE h)
def LP(b:aJ)(s:af->aw->(Bool->aw->Prop)->Prop):Prop:=(
 ∀(Q:List (ak×a3)) (h:ah) (B:aW) (j:aw) (f:af) (u:ae) (D:Bool->aw->Prop),aA b Q B j h->b7 f u->s f j D->
  wpAny (aO b.prog b.w) b.A (truthy u) (tr b Q B D) b.cE h)
def t4(s:bS)(Q9 Rp:b2):b2:=(λB j D=>Q9 B j λf QB=>Rp B QB λH QN=>s f H QN D)
def H2(s:af->aw->cz->Prop)(Q9:b2):b2:=(λB j D=>Q9 B j λf QB=>s f QB D)
def n3(aL:Int->Int->Prop)(L:Int->Int->af):bS:=(λf H j D=>∃a i,f=.int a/\H=.int i/\aL a i/\D (L a i) j)
def ku(L:Int->Int->af):bS:=(λf H j D=>∃a i,f=.int a/\H=.int i/\D (L a i) j)
def B1(L:Int->af):af->aw->cz->Prop:=(λf j D=>∃a,f=.int a/\D (L a) j)
section
variable{b:aJ}{g e m:bk}{Q9 Rp RC:b2}{QK:Pos}
def w1(i:bN b g Q9)(k:bN b e Rp){Q:List (ak×a3)}{h:ah}{B:aW}{j:aw}{Qu:af->af->aw->Prop}(G:aA b Q B j h)(c:Q9 B j λf QB=>Rp B QB λH QN=>Qu f H QN){D:ae->ah->Prop}{C:ae->ae->dD ae}(m:∀u J a f H QN,aA b Q B QN a->b7 f u->b7 H J->Qu f H QN->wpAny (aO b.prog b.w) b.A (C u J) D b.cE a):
  wpAny (aO b.prog b.w) b.A (b8 g b.env) (λu n=>wpAny (aO b.prog b.w) b.A (b8 e b.env) (λJ o=>wpAny (aO b.prog b.w) b.A (C u J) D b.cE o) b.cE n) b.cE h:=by
 refine bU (i Q h B j _ G c) λu p d=>?_;let⟨f,@QB,q,r,s⟩:=d;refine bU (k Q p B QB _ q s) λJ a d=>?_;let⟨H,@QN,t,v,x⟩:=d;exact m u J a f H QN t r v x
def K0{Q8:uM}(a:dI b (fR Q8) s)(d:bN b g Q9)(i:bN b e Rp):bN b (.BinOp g Q8 e QK) (t4 s Q9 Rp):=by
 intro Q h B j D G c;exact wpAny_BinOp (w1 d i G c λu J k f H QN l m n p=>a Q k B QN f H u J D l m n p)
def Hp{Q8:UnaryOp}{s:af->aw->cz->Prop}(a:w0 b (unaryOp Q8) s)(d:bN b g Q9):bN b (.UnaryOp Q8 g QK) (H2 s Q9):=by
 intro Q h B j D G c;exact UnaryOp_ (bU (d Q h B j _ G c) λu e ⟨f,QB,i,k,l⟩=>a Q e B QB f u D i k l)
def ub{aL:Int->Int->Prop}(d:∀(a i:Int) (A J:hH) (h:ah) (D:ae->ah->Prop) (Qt:ae->ah->Prop),aL a i->D (.int (L a i) h.toks) {h with toks:=h.toks+1}->wpAny (aO b.prog b.w) b.A (C (.int a A)<|.int i J) D Qt h):
  dI b C (n3 aL λa i=>.int<|L a i):=by
 intro Q h B j f H u J D G e g c;let⟨a,@i,rfl,rfl,k,p⟩:=c;let⟨@A,rfl⟩:=e;let⟨@QZ,rfl⟩:=g;exact d a i A QZ h _ _ k ⟨.int<|L a i,j,G.tok _,⟨_,rfl⟩,p⟩
def D5(d:∀(a i:Int) (A J:hH) (h:ah) (D:ae->ah->Prop) (Qt:ae->ah->Prop),D (.int (L a i) h.toks) {h with toks:=h.toks+1}->wpAny (aO b.prog b.w) b.A (C (.int a A)<|.int i J) D Qt h):
  dI b C (ku λa i=>.int<|L a i):=by
 intro Q h B j f H u J D G e g c;let⟨a,@i,rfl,rfl,p⟩:=c;let⟨@A,rfl⟩:=e;let⟨@QZ,rfl⟩:=g;exact d a i A QZ h _ _ ⟨.int<|L a i,j,G.tok _,⟨_,rfl⟩,p⟩
def uE{L:Int->Int->Bool}(d:∀(a i:Int) (A J:hH) (h:ah) (D:ae->ah->Prop) (Qt:ae->ah->Prop),D (.bool<|L a i) h->wpAny (aO b.prog b.w) b.A (C (.int a A)<|.int i J) D Qt h):
  dI b C (ku λa i=>.ax<|L a i):=by
 intro Q h B j f H u J D G e g c;let⟨a,@i,rfl,rfl,p⟩:=c;let⟨@A,rfl⟩:=e;let⟨@QZ,rfl⟩:=g;exact d a i A QZ h _ _ ⟨.ax<|L a i,j,G,rfl,p⟩
def OH(a i:Int):Prop:=(0<i/\i<1073741824)
def Lm(a i:Int):Prop:=(0<=i/\i<=1000000/\a.natAbs<2^64)
def MH:dI b (fR .Add) (ku λa i=>.int<|a+i):=D5 λ_ W W W W W W p=>add_int p
def Ib:dI b (fR .Sub) (ku λa i=>.int<|a-i):=D5 λ_ W W W W W W p=>sub_int p
def K4:dI b (fR .FloorDiv) (n3 OH λa i=>.int<|a/i):=ub λa i W W W W W c p=>by
 have t:(0:Int)<i:=c.1;have E:i<1073741824:=c.2;exact floordiv_int ⋯ (by rw[Int.fdiv_eq_ediv_of_nonneg a ⋯];exact p) (.inl (PyProof.noPylong_small ⋯))
def HP:dI b (fR .Mod) (n3 (λ_ i=>0<i) λa i=>.int<|a%i):=ub λa i W W W W W c p=>by
 have t:(0:Int)<i:=c;exact mod_int' ⋯ (by rw[Int.fmod_eq_emod_of_nonneg a ⋯];exact p)
def Ji:dI b (fR .Pow) (n3 Lm λa i=>.int<|a^i.toNat):=ub λ_ W W W W W W c p=>pow_int_small c.1 c.2.1 c.2.2 p
def Pn{C:ae->dD ae}{L:Int->Int}(d:∀(a:Int) (A:hH) (h:ah) (D:ae->ah->Prop) (Qt:ae->ah->Prop),D (.int (L a) h.toks) {h with toks:=h.toks+1}->wpAny (aO b.prog b.w) b.A (C<|.int a A) D Qt h):
  w0 b C (B1 λa=>.int<|L a):=by
 intro Q h B j f u D G e c;let⟨@a,rfl,p⟩:=c;let⟨@A,rfl⟩:=e;exact d a A h _ _ ⟨.int<|L a,j,G.tok _,⟨_,rfl⟩,p⟩
def Jw:w0 b (unaryOp .USub) (B1 λa=>.int<|-a):=Pn λ_ W W W W p=>neg_int p
def L9{D:cz}{n a:Bool}(G:aA b Q B j h)(p:D (.ax n) j)(d:n=a):d4 b Q B D (.bool a) h:=by
 subst d;exact⟨.ax n,j,G,rfl,p⟩
def I8:dI b (dY .Lt) (ku λa i=>.ax<|decide (a<i)):=uE λ_ W W W W W W p=>lt_int p
def Gh:dI b (dY .LtE) (ku λa i=>.ax<|decide (a<=i)):=uE λ_ W W W W W W p=>le_int p
def Pz:dI b (dY .Gt) (ku λa i=>.ax<|decide (i<a)):=uE λ_ W W W W W W p=>gt_int p
def HX:dI b (dY .GtE) (ku λa i=>.ax<|decide (i<=a)):=uE λ_ W W W W W W p=>ge_int p
def MA:dI b (dY .IsNot) (λf H j D=>H=.aT/\D (.ax<|!decide (f=.aT)) j):=by
 intro Q h B j f H u J D G a d c;let@⟨rfl,p⟩:=c;cases d;refine isnot_none_gen (L9 G p ?_);cases f<;>first
  | (cases a;rfl)
  | (let⟨@A,rfl⟩:=a;rfl)
def dI.or(c:dI b C s)(T:dI b C Ra):dI b C (λf H j D=>s f H j D\/Ra f H j D):=by
 intro Q h B j f H u J D G a d p;rcases p with p|p
 ·exact c Q h B j f H u J D G a d p
 ·exact T Q h B j f H u J D G a d p
def dK(e:bk){Q8:jR}(c:Q8≠.In:=by decide)(E:Q8≠.NotIn:=by decide):oP Q8 e=aq:=by
 have a:(Q8==jR.In)=aq:=by cases Q8<;>first|rfl|exact absurd rfl c
 have b:(Q8==jR.NotIn)=aq:=by cases Q8<;>first|rfl|exact absurd rfl E
 cases e<;>simp[oP,a,b]
def JY(a:dI b (dY Q8) s)(d:bN b g Q9)(i:bN b e Rp)(k:oP Q8 e=aq):bN b (.Compare g [Q8] [e] QK) (t4 s Q9 Rp):=by
 intro Q h B j D G c;exact wpAny_Compare1 (w1 d i G c λu J l f H QN m n o p=>a Q l B QN f H u J D m n o p) k
def CV(A:b2):dZ:=(λB j D=>A B j λf F=>∃n,f=.ax n/\D n F)
def J2(a:dI b (dY Q8) s)(i:bN b g Q9)(k:bN b e Rp)(l:oP Q8 e=aq):gK b (.Compare g [Q8] [e] QK) (CV<|t4 s Q9 Rp):=by
 intro Q h B j D G c;refine wpAny_isTrue_Compare1 (bU (i Q h B j _ G c) λu o ⟨f,QB,p,q,r⟩=>bU (k Q o B QB _ p r) λJ t ⟨H,QN,v,w,x⟩=>
  bU (a Q t B QN f H u J _ v q w x) λm E ⟨F,y,z,A,n,d,C⟩=>?_) l;subst d;cases A;exact lx ⟨y,z,C⟩
def AQ(s Ra:bS)(Q9 Rp RC:b2):b2:=(λB j D=>Q9 B j λf QB=>Rp B QB λH QN=>s f H QN λb a=>∃n,b=.ax n/\
 (if n=X then RC B a λc d=>Ra H c d D else D (.ax aq) a))
def OX{a:jR}(p:dI b (dY Q8) s)(q:dI b (dY a) Ra)(r:bN b g Q9)(t:bN b e Rp)(w:bN b m RC)(x:lastMarks [Q8,a] [e,m]=aq:=by with_unfolding_all rfl):gK b (.Compare g [Q8,a] [e,m] QK) (CV<|AQ s Ra Q9 Rp RC):=by
 intro Q h B j D G c;refine isTrue_chain (bU (r Q h B j _ G c) λu y ⟨f,QB,z,A,C⟩=>test_link (bU (t Q y B QB _ z C) λJ E ⟨H,QN,F,i,I⟩=>
  bU (p Q E B QN f H u J _ F A i I) λv L ⟨be,k,l,M,n,d,o⟩=>?_)) x;subst d;cases M;refine lx ?_;cases n with
 |false=>
  let⟨@bi,N,O⟩:=o;cases N;exact ite_ff ⟨k,l,O⟩
 |true=>
  refine ite_tt (test_last<|bU (w Q L B k _ l o) λP R ⟨S,T,U,al,am⟩=>bU (q Q R B T H S J P _ U i al am) λbm bn an=>?_);let⟨bs,@ap,as,a1,⟨@Q6,a2,bd⟩⟩:=an;subst a2;cases a1;exact lx ⟨ap,as,bd⟩
def vI(Qw:Φ)(f:af)(j:aw)(n:Bool):Prop:=(
 match f with
 |.aT=>n=aq
 |.ax e=>n=e
 |.int a=>n=(a != 0)
 |.str H=>H.length<=sizeLine/\n=((H.length:Int) != 0)
 |.p5 H=>H.size<=sizeLine/\n=((H.size:Int) != 0)
 |.ref q=>(∃w,cT Qw j q w/\n=!w.isEmpty)\/(∃w,cb Qw j q w/\n=!w.isEmpty)\/∃QG,j q=Z (.dn QG)/\n=!QG.isEmpty
 |_=>False)
def GA{QP:Type}{QG:List (QP×af)}{U:List (QP×ae)}(s:fp QG U):(!U.isEmpty)=!QG.isEmpty:=by
 cases s<;>rfl
def E_{QD:List ae}(s:bM w QD):(!QD.toArray.isEmpty)=!w.isEmpty:=by
 cases s<;>simp
def nf:(sizeLine:Nat)<2^63:=by rw[wO];decide
def JF:LP b (λf j D=>∃n,vI b.K f j n/\D n j):=by
 intro Q h B j f u D G i c;let⟨@n,d,p⟩:=c;have x:=nf;have Qx:sizeLine=16777216:=wO;cases f with
 |aT=>
  cases i;have g:n=aq:=d;subst g;exact truthy_none ⟨j,G,p⟩
 |ax e=>
  cases i;have g:n=e:=d;subst g;exact lx ⟨j,G,p⟩
 |int a=>
  let⟨@A,rfl⟩:=i;have g:n=(a != 0):=d;subst g;exact PySem.P.truthy_int ⟨j,G,p⟩
 |str H=>
  let⟨@A,rfl⟩:=i;obtain⟨t,g⟩:H.length<=sizeLine/\n=((H.length:Int) != 0):=d;subst g;exact PySem.P.truthy_str ⋯ ⟨j,G.tok _,p⟩
 |p5 H=>
  let⟨@A,rfl⟩:=i;obtain⟨t,g⟩:H.size<=sizeLine/\n=((H.size:Int) != 0):=d;subst g;exact PySem.W.truthy_bytes ⋯ ⟨j,G.tok _,p⟩
 |ref q=>
  cases i;have g:(∃w,cT b.K j q w/\n=!w.isEmpty)\/(∃w,cb b.K j q w/\n=!w.isEmpty)\/∃QG,j q=Z (.dn QG)/\n=!QG.isEmpty:=d;rcases g with ⟨w,m,g⟩|⟨w,m,g⟩|⟨QG,m,g⟩
  ·subst g;let⟨@QD,s,bo,o⟩:=G.list m;have r:=s.length;exact wpAny_truthy_list bo.isList (by simp only[cB];lia) ⟨j,G.tok _,by rw[E_ s];exact p⟩
  ·subst g;let⟨@QD,s,bo,o⟩:=G.tuple m;have r:=s.length;exact truthy_tuple bo (by simp only[cB];lia) ⟨j,G.tok _,by rw[E_ s];exact p⟩
  ·subst g;obtain⟨o,v,U,s,k⟩:QG.length<=sizeLine/\(q==iV)=aq/\∃U,fp QG U/\h.heap.DictOf (lP b.prog b.w) q U:=G.a0 q _ m;have r:QG.length=U.length:=d0.length s;exact wpAny_truthy_dict v k ⋯ ⟨j,G.tok _,by rw[GA s];exact p⟩
 |_=>exact (show False from d).elim
def GV(d:bN b g Q9)(e:∀a,oD g b.env a=(do let u <-a;standAt g.pos;holding [u] (truthy u))):
  gK b g (λB j D=>Q9 B j λf F=>∃n,vI b.K f F n/\D n F):=by
 intro Q h B j D G c;exact isTrue_plain (bU (d Q h B j _ G c) λu i ⟨f,QB,k,l,m⟩=>JF Q i B QB f u D k l m) (e _)
def Il:dI b (fR .Add) (λf H j D=>∃a i,f=.str a/\H=.str i/\a.length+i.length<=sizeLine/\D (.str<|a++i) j):=by
 intro Q h B j f H u J D G d e c;let⟨a,@i,rfl,rfl,g,p⟩:=c;let⟨@A,rfl⟩:=d;let⟨@QZ,rfl⟩:=e;exact add_str (λQZ Q1=>⟨.str<|a++i,j,G.tok _,⟨_,rfl⟩,p⟩) g
def hF{f:af}(s:bM [f] QR):∃J,QR=[J]/\b7 f J:=by
 cases s with
 |cons a b=>cases b;exact⟨_,rfl,a⟩
def p6{f:af}(s:bM [f,H] QR):∃J a,QR=[J,a]/\b7 f J/\b7 H a:=by
 cases s with
 |cons b c=>
  cases c with
  |cons d e=>cases e;exact⟨_,_,rfl,b,d⟩
def Ip(e:b.calm=X):ep b (.builtin "max") (λw j D=>∃a i,w=[.int a,.int i]/\D (.int<|if i>a then i else a) j):=by
 intro Q h B j w QR D G s c;let⟨a,@i,rfl,p⟩:=c;let⟨J,@f,rfl,⟨@A,rfl⟩,⟨@QZ,rfl⟩⟩:=p6 s;refine max_two_ints (G.ok.hd e) λT Q1 n=>⟨_,j,G.kept n,?_,p⟩;by_cases d:i>a
 ·rw[aE d,aE d];exact⟨_,rfl⟩
 ·rw[aK d,aK d];exact⟨_,rfl⟩
def JD(e:b.calm=X):ep b (.builtin "min") (λw j D=>∃a i,w=[.int a,.int i]/\D (.int<|if i<a then i else a) j):=by
 intro Q h B j w QR D G s c;let⟨a,@i,rfl,p⟩:=c;let⟨J,@f,rfl,⟨@A,rfl⟩,⟨@QZ,rfl⟩⟩:=p6 s;refine min_two_ints (G.ok.hd e) λT Q1 n=>⟨_,j,G.kept n,?_,p⟩;by_cases d:i<a
 ·rw[aE d,aE d];exact⟨_,rfl⟩
 ·rw[aK d,aK d];exact⟨_,rfl⟩
def G7:ep b (.type "int") (λw j D=>(∃a,w=[.int a]/\D (.int a) j)\/∃n,w=[.ax n]/\D (.int<|if n then 1 else 0) j):=by
 intro Q h B j w QR D G s c;rcases c with ⟨a,rfl,p⟩|⟨n,rfl,p⟩
 ·let⟨@J,rfl,⟨@A,rfl⟩⟩:=hF s;exact call_int_int ⟨.int a,j,G,⟨_,rfl⟩,p⟩
 ·let⟨@J,rfl,d⟩:=hF s;cases d;exact call_int_bool ⟨.int<|if n then 1 else 0,j,G.tok _,⟨_,rfl⟩,p⟩
end
def j6.some_of{o:Option ae}(s:j6 (Z u) o):∃J,o=Z J/\b7 u J:=by
 cases o with
 |none=>exact (show False from s).elim
 |some J=>exact⟨J,rfl,s⟩
structure eD(n:Nat)(O:bl):Prop where
 hd:O.handled=Y
 vn:O.depth+3*n+5<Eg
 un:O.units+16*n+200<bK
 AR:O.guards=Z []
def eD.mono{i:Nat}(s:eD n O)(c:i<=n):eD i O:=⟨s.hd,by have:=s.vn;lia,by have:=s.un;lia,s.AR⟩
def eD.deeper(s:eD (n+1) O)(Qv:eA):eD n (O.deeper Qv):=
 ⟨s.hd,by have:=s.vn;show O.depth+1+3*n+5<_;lia,by have:=s.un;show O.units+3+16*n+200<_;lia,s.AR⟩
def eD.depth(s:eD n O):O.depth<Eg:=by have:=s.vn;lia
def Px:eW:=(λ_ j D=>D [] j)
def OO(Q9:b2)(f6:eW):eW:=(λB j D=>Q9 B j λf QB=>f6 B QB λw QN=>D (f::w) QN)
section
variable{b:aJ}{d:bk}{Qs:List bk}{Rq:b2}{A:eW}{QK:Pos}
def Ek:ho b [] Px:=λ_ W W W j D G c=>wq ⟨[],j,G,.nil,c⟩
def xe(e:bN b d Rq)(g:ho b Qs A)(Qx:bQ (d::Qs) b.env=(aq,b8 d b.env)::bQ Qs b.env:=by rfl):ho b (d::Qs) (OO Rq A):=by
 intro QK Q h B j D G c;rw[Qx];show wpAny _ _ (spliced ((aq,b8 d b.env)::gh QK (bQ Qs b.env))) _ _ h;refine ym (bU (e Q h B j _ G c) λJ i a=>?_);let⟨f,@QB,k,l,m⟩:=a;refine bU (g QK Q i B QB _ k m) λQR q a=>?_;let⟨w,@QN,n,o,p⟩:=a;exact⟨f::w,QN,n,.cons l o,p⟩
def Jc(A:eW):b2:=(λB j D=>A B j λw QB=>w.length<=sizeLine/\∀q,QB q=Y->D (.ref q) (upd QB q<|.tup w))
def L6(A:eW):b2:=(λB j D=>A B j λw QB=>w.length<=sizeLine/\∀q,QB q=Y->D (.ref q) (upd QB q<|.lst w))
def NO{i}(c:ho b Qs A):bN b (.Tuple Qs i QK) (Jc A):=by
 intro Q h B j D G k;refine wpAny_Tuple_spliced (bU (c QK Q h B j _ G k) λQR a ⟨w,QB,f,s,g,p⟩=>⟨by rw[<-s.length];exact g,?_⟩);have l:QB a.heap.objs.size=Y:=f.a0.fresh (a5 _);refine⟨.ref a.heap.objs.size,upd QB a.heap.objs.size<|.tup w,f.laid (QZ:=a.toks) (λe J d=>b6 _ d) (a5 _) ?_,rfl,p _ l⟩;exact⟨g,QR,s,⟨_,c_ _ rfl,rfl,_,rfl⟩⟩
def PH(c:ho b Qs A):bN b (.List Qs QK) (L6 A):=by
 intro Q h B j D G i;refine wpAny_List_spliced (bU (c QK Q h B j _ G i) λQR a ⟨w,QB,f,s,g,p⟩=>⟨by rw[<-s.length];exact g,?_⟩);have k:QB a.heap.objs.size=Y:=f.a0.fresh (a5 _);refine⟨.ref a.heap.objs.size,upd QB a.heap.objs.size<|.lst w,f.laid (QZ:=a.toks) (λe J d=>b6 _ d) (a5 _) ?_,rfl,p _ k⟩;exact⟨g,QR,0,s,c_ _ rfl⟩
end
abbrev cG:=List af->aw->cz->gs->Prop
abbrev kd:=List eA->aw->ah->gs->ae->ah->Prop
variable{z:kd}
structure ug(Qr:bz)(l:bc)(Qw:Φ)(aI:aB->Option ae)(QH:aV)(O:bl)(Rg:List eA)(h:ah)(j:aw):Prop where
 frames:O.frames=Z Rg
 mod:Mod Qw aI QH
 bs:∀e o,QH.get? e=Z o->h.heap.get? e=Z o/\j e=Y
 kk:QH.objs.size<=h.heap.objs.size
 iv:h.heap.FunFrames QH Rg
 mn:∀e∈hE Rg,j e=Y
 a0:dQ Qr l j h.heap
 bare:kC h.gens
def vo(Rg:List eA)(Qr:bz)(l:bc)(j:aw)(h:ah)(D:cz)(J:ae)(Qp:ah):Prop:=(
 ∃u F,Qp.os=h.os/\kC Qp.gens/\eX (hE Rg) [] j F h.heap Qp.heap/\dQ Qr l F Qp.heap/\b7 u J/\D u F)
def Jf(z:kd)(Rg:List eA)(Qr:bz)(l:bc)(j:aw)(h:ah)(D:cz)(Qt:gs)(s:oL)(Qp:ah):Prop:=(
 match s with
 |.ok (.ret J)=>vo Rg Qr l j h D J Qp
 |.ok _=>False
 |.error d=>z Rg j h Qt d Qp)
structure iz(Qr:bz)(l:bc)(Qw:Φ)(aI:aB->Option ae)(QH:aV)(z:kd)(n:Nat)(C:ak)(fd:gj)(QF:List aB)(Ru:cG):Prop where
 len:∀U j D Qt,Ru U j D Qt->U.length=QF.length
 run:∀(O:bl) (Rg:List eA) (h:ah) (j:aw) (args:Args) (QR:List ae) (U:List af) (D:cz) (Qt:gs),eD n O->ug Qr l Qw aI QH O Rg h j->me h fd args (QF.zip QR)->bM U QR->Ru U j D Qt->
  codeAny (aO Qr l) O (.call (.ref C) args) (Jf z Rg Qr l j h D Qt) h
section
variable{b:aJ}{Q:List (ak×a3)}{B:aW}{j:aw}{h Qp:ah}
def aA.HB(G:aA b Q B j h):ug b.prog b.w b.K b.aI b.base b.A b.stack h j:=
 ⟨G.ok.frames,G.ok.mod,G.bs,eG G.ok.kk G.iI,G.stack,G.BJ,G.a0,G.bare⟩
def aA.after{D:cz}(G:aA b Q B j h)(c:vo b.stack b.prog b.w j h D J Qp):d4 b Q B D J Qp:=by
 let⟨u,@F,M,a,un,a0,s,p⟩:=c;let⟨d,L,v,A,f⟩:=Qp;obtain rfl:f=h.os:=M;exact⟨u,F,G.call (T:=d) (i:=L) (u:=v) (QZ:=A) (Rt:=[]) un a0 a (λe g=>absurd g ↥0),s,p⟩
end
def Dz(Ru:cG)(i:List af)(Qt:gs)(A:eW):b2:=(λB j D=>A B j λU QB=>Ru (U++i) QB D Qt)
def ik(Qw:Φ)(fd:gj)(QF:List aB)(I:List ae):Prop:=(
 ∀(h:ah) (QR:List ae),Qw.In h.heap->(QR++I).length=QF.length->me h fd ⟨QR,[]⟩ (QF.zip<|QR++I))
def ik.all{fd:gj}(c:∀QR:List ae,QR.length=QF.length->i0 fd ⟨QR,[]⟩=pure (QF.zip QR)):ik Qw fd QF []:=λh QR W a=>by
 rw[cC]at a ⊢;exact .of_eq (c QR a)
def xR(z:kd)(b:aJ)(Qt:gs):Prop:=(∀(Q:List (ak×a3)) (B:aW) (j:aw) (h:ah) (d:ae) (Qp:ah),aA b Q B j h->z b.stack j h Qt d Qp->b.cE d Qp)
section
variable{b:aJ}{z:kd}{n:Nat}{C aL:ak}{fd:gj}{QF:List aB}{Ru:cG}{i:List af}{I:List ae}{Qt:gs}{f k:aB}{q QK RB:Pos}{d o:bk}{Qs:List bk}{Q9:b2}{A:eW}
def IG{D:cz}(P:iz b.prog b.w b.K b.aI b.base z n C fd QF Ru)(f:eD n b.A)(g:ik b.K fd QF I)(k:bM i I)(m:xR z b Qt)(G:aA b Q B j h)(s:bM U QR)(c:Ru (U++i) j D Qt):wpAny (aO b.prog b.w) b.A (call (.ref C) QR) (d4 b Q B D) b.cE h:=by
 have e:bM (U++i) (QR++I):=s.append k;have o:(QR++I).length=QF.length:=by rw[<-e.length];exact P.len _ _ _ _ c
 refine wpAny_call (q0 (P.run b.A b.stack h j ⟨QR,[]⟩ (QR++I) (U++i) D Qt f G.HB (g h QR G.oH o) e c) λs Qp a=>?_);cases s with
 |error d=>exact m Q B j h d Qp G a
 |ok aR=>
  cases aR with
  |ret J=>exact G.after a
  |next=>exact False.elim a
  |brk=>exact False.elim a
  |cont=>exact False.elim a
def IM(P:iz b.prog b.w b.K b.aI b.base z n C fd QF Ru)(e:eD n b.A)(g:d3 b f)(k:b.aI f=Z (.ref C))(m:Θ b.K (.ref C)=X)(o:ik b.K fd QF I)(r:bM i I)(t:xR z b Qt)(u:ho b (d::Qs) A)(v:(f==("__debug__" : aB))=aq:=by decide)(x:bQ (d::Qs) b.env=(aq,b8 d b.env)::bQ Qs b.env:=by rfl)(y:(gh QK<|bQ Qs b.env).any (·.1)=aq:=by rfl):
  bN b (.Call (.Name f q) (d::Qs) [] QK) (Dz Ru i Qt A):=by
 intro Q h B j D G c;refine p3 (FQ G g k ?_ v);refine PySem.W.callWith_K (h₀:=b.base) G.ok.mod.w_ m (bU (u QK Q h B j _ G c) λQR F ⟨U,QB,a,s,p⟩=>⟨a.oH,?_⟩) x y;exact IG P e o r t a s p
end
structure mI(Q2 Qr:List aB)(A:gn):Prop where
 kind:A.kind=.function
 co:A.isCoroutine=aq
 gen:A.isGenerator=aq
 ao:Q2.Nodup
 pre:Q2.take Qr.length=Qr
 par:∀f∈Qr,A.names.lookup f=Z .local\/A.names.lookup f=Z .cell
 Jk:∀H∈A.names,H.2≠.free
theorem Bp{a:aB->Option dh}{f:aB}:∀{binds:List (aB×ae)}{k:aB->Option ae},(∀u,(f,u)∉binds)->bindL a binds k f=k f
 |[],_,_=>rfl
 | (r,u)::s,k,c=>by
  unfold bindL;rw[Bp λl b=>c l<|jX _ b];split
  ·have:f≠r:=by rintro rfl;exact c u k1
   simp[this]
  ·rfl
theorem Av{a:aB->Option dh}{f:aB}:∀{binds:List (aB×ae)}{k:aB->Option ae},(∀u,(f,u)∉binds)->bindC a binds k f=k f
 |[],_,_=>rfl
 | (r,u)::s,k,c=>by
  unfold bindC;rw[Av λl b=>c l<|jX _ b];split
  ·rfl
  ·have:f≠r:=by rintro rfl;exact c u k1
   simp[this]
theorem CR{b:aB->Option dh}{f:aB}{u:ae}:∀{Qr:List aB}{U:List ae}{a:Nat}{k:aB->Option ae},Qr.Nodup->Qr[a]?=Z f->U[a]?=Z u->b f=Z .local->
  bindL b (Qr.zip U) k f=Z u
 |[],_,_,_,_,c,_,_=>by simp at c
 |_::_,[],_,_,_,_,c,_=>by simp at c
 |q::Qr,l::U,0,k,ao,t,E,d=>by
  simp at t E;subst t;subst E;show bindL b ((q,l)::Qr.zip U) k q=_;unfold bindL;rw[Bp λu e=>(ic.mp ao).1 (xf e).1,aE d];simp
 |q::Qr,l::U,a+1,k,ao,t,E,d=>by
  show bindL b ((q,l)::Qr.zip U) k f=_;unfold bindL;exact CR (a:=a) (ic.mp ao).2 ⇑t ⇑E d
theorem yW{b:aB->Option dh}{f:aB}{u:ae}:∀{Qr:List aB}{U:List ae}{a:Nat}{k:aB->Option ae},Qr.Nodup->Qr[a]?=Z f->U[a]?=Z u->b f≠Z .local->
  bindC b (Qr.zip U) k f=Z u
 |[],_,_,_,_,c,_,_=>by simp at c
 |_::_,[],_,_,_,_,c,_=>by simp at c
 |q::Qr,l::U,0,k,ao,t,E,d=>by
  simp at t E;subst t;subst E;show bindC b ((q,l)::Qr.zip U) k q=_;unfold bindC;rw[Av λu e=>(ic.mp ao).1 (xf e).1,aK d];simp
 |q::Qr,l::U,a+1,k,ao,t,E,d=>by
  show bindC b ((q,l)::Qr.zip U) k f=_;unfold bindC;exact yW (a:=a) (ic.mp ao).2 ⇑t ⇑E d
def start(Q2:List aB)(U:List af):aW:=(U.map Z++List.replicate (Q2.length-U.length) Y)
def kN(z:kd)(Qr:bz)(l:bc)(Qw:Φ)(aI:aB->Option ae)(QH:aV)(Q2:List aB)(Rm:aB)(QS:gn)(C:ak)(a:ae)(O:bl)(Rg:List eA)(h:ah)(j:aw)(Qt:gs):aJ where
 prog:=Qr
 w:=l
 K:=Qw
 aI:=aI
 base:=QH
 A:=O.deeper (iB Rm QS h.heap.objs.size C a)
 N:=Q2
 eF:=h
 o7:=j
 env:=iB Rm QS h.heap.objs.size C a
 outer:=Rg
 stack:=iB Rm QS h.heap.objs.size C a::Rg
 ex:=[]
 calm:=X
 fn:=λ_=>X
 jP:=[]
 cE:=λd Qp=>wpAny (aO Qr l) (O.deeper<|iB Rm QS h.heap.objs.size C a) (leaving (iB Rm QS h.heap.objs.size C a) d) (λ_ b=>z Rg j h Qt d b) (λc b=>z Rg j h Qt c b) Qp
def AV{A:gn}(c:A.names.lookup f=Z .cell):∃m,(yn r A.names []).lookup f=Z m:=by
 have p:=Fi A.names r [] (.inl c);exact zd.mp p
def H9{C:ak}{v:ae}{Rg:List eA}{x:ah}{Qt:gs}(QI:mI Q2 QF QS)(D:O.handled=Y)(b:ug Qr l Qw aI QH O Rg h j)(I:U.length=QF.length)(s:bM U QR)(f:InCallC h h.heap.objs.size (bindL (iB Rm QS h.heap.objs.size C v).kindOf (QF.zip QR) λ_=>Y) (yn (h.heap.objs.size+1) QS.names []) (bindC (iB Rm QS h.heap.objs.size C v).kindOf (QF.zip QR) λ_=>Y) x):
  aA (kN z Qr l Qw aI QH Q2 Rm QS C v O Rg h j Qt) [] (start Q2 U) j x:=by
 have L:QF.length<=Q2.length:=by have:=congrArg List.length QI.pre;rw[fG]at this;lia
 let⟨t,@Q1,rfl,y⟩:=f.done;have w:∀e:ak,e∉(kN z Qr l Qw aI QH Q2 Rm QS C v O Rg h j Qt).ex:=λe k=>absurd (show e∈([]:List ak) from k) ↥0;refine⟨⟨b.mod,QI.kind,rfl,rfl,a5 _,λH k m t E=>?_,λH i=>?_,λH m W c=>?_,λ_=>D,bl.frames_deeper b.frames,.inr ⟨rfl,rfl⟩,λe k=>absurd k<|w e,b.bs,b.kk,λe W W=>w e,λe k=>absurd k<|w e,b.iv,b.mn⟩,
  rfl,b.bare,eX.kept y,⟨_,f.toInCall.ns,λa H u t E M=>?_⟩,λH m c=>⟨_,f.cell H m c⟩,b.a0.fresh<|a5 _,λH m c=>?_,λq o=>absurd (show q∈([]:List (ak×a3)) from o) ↥0,b.a0.kept y,?_⟩
 ·exact name_of_addr f.apart (PySem.mem_of_lookup t) (PySem.mem_of_lookup E)
 ·have i:QS.names.lookup H=Z .cell\/QS.names.lookup H=Z .free:=i;rcases i with i|i
  ·exact AV i
  ·exact absurd rfl (QI.Jk _<|PySem.mem_of_lookup i)
 ·exact mj (f.above H m<|PySem.mem_of_lookup c)
 ·have S:a<U.length:=by
   unfold start at E;by_cases S:a<U.length
   ·exact S
   ·rw[jw ⇑S]at E;rw[List.getElem?_replicate]at E;split at E<;>cases E
  have F:U[a]?=Z u:=by
   unfold start at E;rw[iA ⇑S,eH]at E;cases d:U[a]? with
   |none=>rw[d]at E;cases E
   |some g=>rw[d]at E;cases E;rfl
  let⟨@J,A,G⟩:=s.get F;have o:QF[a]?=Z H:=by
   rw[<-QI.pre,List.getElem?_take_of_lt ⋯];exact t
  have B:QF.Nodup:=by rw[<-QI.pre];exact QI.ao.sublist (pf _ _)
  refine⟨J,G,?_⟩;rcases QI.par H (fe o) with n|n
  ·exact .inl ⟨n,CR B o A n⟩
  ·let⟨@m,d⟩:=AV (r:=h.heap.objs.size+1) n;refine .inr ⟨.inl n,m,d,?_⟩;have p:=f.cell H m d;rw[yW B o A (by show QS.names.lookup H≠_;rw[n];decide)]at p;exact p
 ·exact b.a0.fresh (mj<|f.above H m<|PySem.mem_of_lookup c)
 ·unfold start;show _=Q2.length;rw[dx,bj,List.length_replicate];lia
def Hm{C:ak}{name:aB}{k:Arguments}{m b0 i T R bW E:ae}{y t:Option ak}{I:Array (Option ae)}{Ru:cG}(lk:Qw.lookup C=Z ⟨E,t,.func<|Ξ name Rm k Rx QS m b0 i T y R bW,I⟩)(B:Δ Qw R Rm=X)(QI:mI Q2 QF QS)(len:∀U j D Qt,Ru U j D Qt->U.length=QF.length)(L:∀(O:bl) (Rg:List eA) (h:ah) (j:aw) (U:List af) (D:cz) (Qt:gs),eD n (O.deeper<|iB Rm QS h.heap.objs.size C R)->Ru U j D Qt->
   ∃A,hk (kN z Qr l Qw aI QH Q2 Rm QS C R O Rg h j Qt) Rx A/\A {bg:=λ_ F=>D .aT F,et:=D} (start Q2 U) j):
  iz Qr l Qw aI QH z (n+1) C (Ξ name Rm k Rx QS m b0 i T y R bW) QF Ru:=by
 refine⟨len,λO Rg h j args QR U D Qt c a N s q=>?_⟩;have P:=len _ _ _ _ q;have v:Qw.In h.heap:=a.mod.w_.keeps λe o d=>(a.bs e o d).1;have Q:h.heap.NoLimit:=a.mod.nolimit.keeps λe o d=>(a.bs e o d).1;have S:∀H∈QF.zip QR,QS.names.lookup H.1=Z .local\/(QS.names.lookup H.1=Z .cell/\((yn (h.heap.objs.size+1) QS.names []).lookup H.1).isSome=X):=λ⟨r,u⟩ al=>by
  rcases QI.par r (xf al).1 with p|p
  ·exact .inl p
  ·exact .inr ⟨p,Fi _ _ _<|.inl p⟩
 refine codeAny_call_function c.depth (v _ _ lk) rfl QI.co QI.gen rfl (PySem.W.codeRec_of v B) (N _ _ _ _ ?_);refine wpAny_newFunctionEnv_cells QI.kind S λQv am w f=>?_;subst am;refine⟨Q.keeps f.toInCall.keep,codeAny_func ?_⟩;let⟨@A,bf,an⟩:=L O Rg h j U D Qt (c.deeper _) q;have G:aA (kN z Qr l Qw aI QH Q2 Rm QS C R O Rg h j Qt) [] (start Q2 U) j w:=H9 QI c.hd a P s f;refine gQ (bf [] w (start Q2 U) j _ G an) (λaR Qp Qx=>?_) λd Qp Qx=>Qx;have x:∀{b:aW}{F:aw}{u:af}{J:ae},aA (kN z Qr l Qw aI QH Q2 Rm QS C R O Rg h j Qt) [] b F Qp->b7 u J->D u F->vo Rg Qr l j h D J Qp:=
  λ{b F u J} Rn g p=>⟨u,F,Rn.os,Rn.bare,Rn.base,Rn.a0,g,p⟩;cases aR with
 |ret J=>
  let⟨u,b,@F,Rn,g,p⟩:=Qx;exact x Rn g p
 |next=>
  let⟨b,@F,Rn,p⟩:=Qx;exact x (u:=af.aT) (J:=ae.none) Rn rfl p
 |brk=>
  let⟨M,@M,M,p⟩:=Qx;exact False.elim p
 |cont=>
  let⟨M,@M,M,p⟩:=Qx;exact False.elim p
section
variable{b:aJ}{f:aB}{q QK:Pos}{d:bk}{Qs:List bk}{A:eW}{id Qq:String}{s:List af->aw->cz->Prop}
def Cd(s:List af->aw->cz->Prop)(A:eW):b2:=(λB j D=>A B j λU QB=>s U QB D)
def B5(a:ep b (.builtin id) s)(e:d3 b f)(g:b.aI f=Y)(i:ez f=Z (.builtin id))(k:ho b (d::Qs) A)(l:f ≠ "__name__" := by decide)(m:(f==("__debug__" : aB))=aq:=by decide)(n:bQ (d::Qs) b.env=(aq,b8 d b.env)::bQ Qs b.env:=by rfl)(o:(gh QK<|bQ Qs b.env).any (·.1)=aq:=by rfl):bN b (.Call (.Name f q) (d::Qs) [] QK) (Cd s A):=by
 intro Q h B j D G c;refine p3 (kz G e g i ?_ l m);exact CZ (bU (k QK Q h B j _ G c) λQR p ⟨U,QB,r,t,u⟩=>a Q p B QB U QR D r t u) n o
def N6(a:ep b (.type Qq) s)(e:d3 b f)(g:b.aI f=Y)(i:ez f=Z (.type Qq))(k:ho b (d::Qs) A)(l:f ≠ "__name__" := by decide)(m:(f==("__debug__" : aB))=aq:=by decide)(n:bQ (d::Qs) b.env=(aq,b8 d b.env)::bQ Qs b.env:=by rfl)(o:(gh QK<|bQ Qs b.env).any (·.1)=aq:=by rfl):bN b (.Call (.Name f q) (d::Qs) [] QK) (Cd s A):=by
 intro Q h B j D G c;refine p3 (kz G e g i ?_ l m);exact n6 (bU (k QK Q h B j _ G c) λQR p ⟨U,QB,r,t,u⟩=>a Q p B QB U QR D r t u) n o
end
end L2
namespace c4
open PyProof.Rows
variable{S R:Option Int}{z bZ:ae}{aU A:ak}{D:ae->ah->Prop}
theorem KA(O:bl)(h:ah)(g:Int)(A:hH)(m:Int)(J:hH)(Qy:bz)(l:bc)(Qt:ae->ah->Prop)(D:ae->ah->Prop)(c:D (.bool<|decide (g<m)) h):
  wpAny (aO Qy l) O (nh .Lt (.int g A)<|.int m J) D Qt h:=
 (Hz c:wpAny (aO Qy l) O (dY .Lt (.int g A)<|.int m J) D Qt h)
section
open PySem.SeqAt
open PySem.AutoSeq1 (wpAny_loadPart')
open PySem.MeetsSeq PySem.MeetsSeq2 PySem.MeetsSeq3
end
section
variable{Qy:bz}{l:bc}{O:bl}{Qt:ae->ah->Prop}{h:ah}
def HQ{e:ak}{U F:List ae}(bf:nQ h.heap A U.toArray)(q:nQ h.heap e F.toArray)(f:U≠[])(t:F=[]->D (.ref A) h)(E:F≠[]->D (.ref h.heap.objs.size) {h with heap:=h.heap.push {cls:=.type "tuple",data:=.seq (U++F).toArray} })(s:U.length+F.length<=sizeLine):wpAny (aO Qy l) O (fR .Add (.ref A)<|.ref e) D Qt h:=by
 let⟨@⟨cls,g,data,aU⟩,a,i,⟨@r,j⟩⟩:=id bf;let⟨@⟨u,k,data2,m⟩,b,n,⟨@o,p⟩⟩:=id q;simp only at i j n p;subst i j n p;have d:U.toArray++F.toArray=(U++F).toArray:=by simp
 by_cases c:F=[]
 ·exact yg ⟨_,a,rfl⟩ ⟨_,b,rfl⟩ wM wF xa xr (wZ _ _)
   (tuple_addW1 A e U.toArray F.toArray r o g k aU m ⇑f (by simp[c])) ⟨a,b,t c⟩
 ·refine yg ⟨_,a,rfl⟩ ⟨_,b,rfl⟩ wM wF xa xr (wZ _ _)
   (tuple_addW2 A e U.toArray F.toArray r o g k aU m ⇑f ⇑c (by rw[cB,cB];exact s)) ⟨a,b,?_⟩;rw[d];exact E c
def b4(r v:Nat):Option Int->Nat
 |none=>v
 |some u=>if u<0 then (u+(r:Int)).toNat else min u.toNat r
def AO(r v:Nat):b4 r v Y=v:=rfl
def FE(r v n:Nat):b4 r v (Z (n:Int))=min n r:=by
 show (if (n:Int)<0 then ((n:Int)+(r:Int)).toNat else min (n:Int).toNat r)=min n r;rw[aK ⋯,q_]
def Nk(r v:Nat)(b:v<=r)(o:Option Int):b4 r v o<=r:=by
 cases o with
 |none=>exact b
 |some u=>
  show (if u<0 then (u+(r:Int)).toNat else min u.toNat r)<=r;by_cases a:u<0
  ·rw[aE a];lia
  ·rw[aK a];exact Nat.min_le_right _ _
def CI(u:Int)(r v:Nat):(if u<0 then max (u+(r:Int)) 0 else min u (r:Int))=((b4 r v (Z u):Nat):Int):=by
 show (if u<0 then max (u+(r:Int)) 0 else min u (r:Int))=(((if u<0 then (u+(r:Int)).toNat else min u.toNat r):Nat):Int);by_cases a:u<0
 ·simp only[aE a];lia
 ·simp only[aK a];lia
def Gs(R S:Option Int)(r:Nat):bq.Slice.sliceAdjust R S 1 (r:Int)=(((b4 r 0 R:Nat):Int),((b4 r r S:Nat):Int)):=by
 have t:¬ ((1:Int)<0):=⋯
 unfold bq.Slice.sliceAdjust;simp only[t,e1];refine Fq ?_ ?_
 ·cases R with
  |none=>rfl
  |some u=>exact CI u r 0
 ·cases S with
  |none=>rfl
  |some u=>exact CI u r r
def Nt(a i:Nat):bq.Slice.slicePlaces (a:Int) (i:Int) 1=i-a:=by
 unfold bq.Slice.slicePlaces;have t:(1:Int)>0:=⋯
 simp only[t,gv,Int.ediv_one];split<;>lia
def AG{u:ae}{o:Option Int}{D:Option Int->ah->Prop}(q:jT u o)(c:D o h):wpAny (aO Qy l) O (bq.Slice.slicePartIndex u) D Qt h:=by
 cases q with
 |none=>exact z9 c
 |int a A=>exact slicePart_int c
def CM{r:Nat}{D:Int×Int×Nat->ah->Prop}(Qx:h.heap.IsSliceOf aU bZ z .none)(bo:jT bZ R)(d:jT z S)(c:D (((b4 r 0 R:Nat):Int),1,b4 r r S-b4 r 0 R) h):wpAny (aO Qy l) O (bq.Slice.sliceApplied (.ref aU)<|pure (r:Int)) D Qt h:=by
 let⟨@M,a,e,b⟩:=id Qx;unfold bq.Slice.sliceApplied bq.Slice.sliceFields;refine av (av<|hl a b (x:=bZ) rfl<|av<|hl a b (x:=z) rfl<|av<|hl a b (x:=.none) rfl<|aS ?_);refine av (z9 ?_);show wpAny _ _ (if ((1:Int)==0)=X then _ else _) _ _ h;rw[aK ∅];refine av (AG bo<|av<|AG d<|av<|aS ?_);show wpAny _ _ (match bq.Slice.sliceAdjust R S 1 (r:Int) with|(R,S)=>pure (R,(1:Int),bq.Slice.slicePlaces R S 1)) _ _ h;rw[Gs R S r];show wpAny _ _ (pure (((b4 r 0 R:Nat):Int),(1:Int),bq.Slice.slicePlaces ((b4 r 0 R:Nat):Int) ((b4 r r S:Nat):Int) 1)) _ _ h;rw[Nt];exact aS c
def GW(w:Array ae)(a n:Nat):((range n).filterMap λ(k:Nat)=>w[((a:Int)+(k:Int)*1).toNat]?).toArray=((w.toList.drop a).take n).toArray:=by
 have d:(λ(k:Nat)=>w[((a:Int)+(k:Int)*1).toNat]?)=λk=>w[a+k]?:=by
  funext k;have:((a:Int)+(k:Int)*1).toNat=a+k:=⋯
  rw[this]
 rw[d];have:=pick_run w a n;rw[List.filterMap_map]at this;have b:((λf=>w[f]?) ∘ λf=>a+f)=λk=>w[a+k]?:=rfl;rw[b]at this;rw[this]
def GK{QL:Array ae}(bf:nQ h.heap A QL)(Qx:h.heap.IsSliceOf aU bZ z .none)(bo:jT bZ R)(b:jT z S)(d:¬ (b4 QL.size 0 R=0/\b4 QL.size QL.size S=QL.size))(c:D (.ref h.heap.objs.size) {h with heap:=h.heap.push {cls:=.type "tuple",data:=.seq ((QL.toList.drop<|b4 QL.size 0 R).take<|b4 QL.size QL.size S-b4 QL.size 0 R).toArray} })(j:QL.size<=sizeLine):wpAny (aO Qy l) O (lT (.ref A)<|.ref aU) D Qt h:=by
 have a:sizeOk (.seq ((QL.toList.drop<|b4 QL.size 0 R).take<|b4 QL.size QL.size S-b4 QL.size 0 R).toArray):=by
  show ((QL.toList.drop<|b4 QL.size 0 R).take<|b4 QL.size QL.size S-b4 QL.size 0 R).toArray.size<=sizeLine;rw[cB,fG,gc,dp];lia
 have m:b4 QL.size QL.size S<=QL.size:=Nk _ _ (a5 _) S;let⟨@M,e,f,n⟩:=id Qx;have g:h.TypeIs (.ref aU) "slice" := ⟨M,e,f⟩;unfold lT;try with_reducible refine fc ?_
 first|refine av (aS ?_)|skip
 refine av (CA bf.typeIs ∅ ?_);refine av (lW (name:=aB.ofString "__getitem__") bf.typeIs n5
  (iN n5 bf.typeIs zu ?_<|Ee _ _));show wpAny _ _ (bq.Tuple.tupleItemsOf (.ref A) >>= _) _ _ h;refine av (zB bf ?_);refine av (wpAny_typeOf g ?_);rw[aE ∅];refine av (CM Qx bo b ?_);have i:¬ ((((b4 QL.size 0 R:Nat):Int)==0&&(1:Int)==1&&(b4 QL.size QL.size S-b4 QL.size 0 R)==QL.size)=X):=by
  intro p;rw[cI,cI]at p;have o:((b4 QL.size 0 R:Nat):Int)=0:=eq_of_beq p.1.1;have q:b4 QL.size QL.size S-b4 QL.size 0 R=QL.size:=eq_of_beq p.2;exact d ⟨⋯,⋯⟩
 show wpAny _ _ (if (((b4 QL.size 0 R:Nat):Int)==0&&(1:Int)==1&&(b4 QL.size QL.size S-b4 QL.size 0 R)==QL.size)=X then _ else _) _ _ h;rw[aK i,GW];first
  | exact av (m:=bq.Tuple.tupleExact _) (hJ (aS ⟨_,rfl,aS c⟩) a)
  | exact av (m:=bq.Tuple.tupleExact _) (hJ (av<|aS<|aS ⟨_,rfl,aS c⟩) a)
  | exact av (av (m:=bq.Tuple.tupleExact _)<|hJ (aS<|aS ⟨_,rfl,aS c⟩) a)
  | exact av (av (m:=bq.Tuple.tupleExact _)<|hJ (aS ⟨_,rfl,aS c⟩) a)
end
end c4
namespace L2
open Spec PyProof.Rows
variable{T:aV}{D:ae->ah->Prop}{F j:aw}{QG:List (List V×af)}{l:bc}{Qr:bz}{o:Option af}{QZ r:Nat}{y QD QR:List ae}{q:ak}{h:ah}{B:aW}{Q:List (ak×a3)}{s:bS}{QT:Type}{a:Int}{w:List (List V×ak×ae)}
abbrev cJ:=aW->aw->(Option Int->aw->Prop)->Prop
def B6(b:aJ)(d:Option bk)(A:cJ)(Q:List (ak×a3)):Prop:=(
 ∀(h:ah) (B:aW) (j:aw) (D:Option Int->aw->Prop),aA b Q B j h->A B j D->
  wpAny (aO b.prog b.w) b.A (evalPart d b.env) (λJ Qp=>∃o F,aA b Q B F Qp/\jT J o/\D o F) b.cE h)
def od(b:aJ)(d:Option bk)(A:cJ):Prop:=(∀Q,B6 b d A Q)
def Le:cJ:=(λ_ j D=>D Y j)
def Ko(A:b2):cJ:=(λB j D=>A B j λf QB=>∃a,f=.int a/\D (Z a) QB)
section
variable{b:aJ}{d:bk}{Rq:b2}{R S:Option bk}{RA i:cJ}{QK Rf:Pos}
def IZ:od b Y Le:=by
 intro Q h B j D G c;rw[Bx];exact aS ⟨Y,j,G,.none,c⟩
def MO(c:bN b d Rq):od b (Z d) (Ko Rq):=by
 intro Q h B j D G e;rw[evalPart_some];refine bU (c Q h B j _ G e) λJ m g=>?_;let⟨f,@QB,i,k,l⟩:=g;let⟨@a,rfl,p⟩:=l;let⟨@A,rfl⟩:=k;exact⟨Z a,QB,i,.int a A,p⟩
def q8(b:aJ)(s:af->Option Int->Option Int->aw->cz->Prop):Prop:=(
 ∀(Q:List (ak×a3)) (h:ah) (B:aW) (j:aw) (f:af) (u bZ z:ae) (R S:Option Int) (aU:ak) (D:cz),aA b Q B j h->b7 f u->h.heap.IsSliceOf aU bZ z .none->jT bZ R->jT z S->s f R S j D->
  ∃Qq id,uv (.type Qq) "__getitem__" = pure (Z<|.builtin id)/\h.TypeIs u Qq/\wpAny (aO b.prog b.w) b.A (lT u<|.ref aU) (d4 b Q B D) b.cE h)
def JZ(s:af->Option Int->Option Int->aw->cz->Prop)(Rq:b2)(RA i:cJ):b2:=(λB j D=>Rq B j λf QB=>RA B QB λx QN=>i B QN λJ a=>s f x J a D)
def Ii{s:af->Option Int->Option Int->aw->cz->Prop}(m:q8 b s)(n:bN b d Rq)(o:od b R RA)(q:od b S i):bN b (.Subscript d (.Slice R S Y Rf) QK) (JZ s Rq RA i):=by
 intro Q h B j D G c;refine Subscript_ (bU (n Q h B j _ G c) λu r g=>?_);let⟨f,@QB,t,v,y⟩:=g;refine wpAny_Slice (bU (o Q r B QB _ t y) λbZ C ⟨x,QN,E,bo,F⟩=>bU (q Q C B QN _ E F) λz a g=>?_);let⟨J,@k,H,I,L⟩:=g;rw[Bx];refine aS ?_;have M:aA b Q B k {a with heap:=a.heap.push {cls:=.type "slice",data:=.fields #[bZ,z,.none]} }:=H.kept (QZ:=a.toks) λe T p=>b6 _ p;let⟨Qq,@id,N,bf,P⟩:=m Q {a with heap:=a.heap.push {cls:=.type "slice",data:=.fields #[bZ,z,.none]} } B k f u bZ z x J a.heap.objs.size D M v (aV.IsSliceOf.new ..) bo I L;show wpAny (aO b.prog b.w) b.A (Ex d (.Slice R S Y Rf) u<|.ref a.heap.objs.size) (d4 b Q B D) b.cE {a with heap:=a.heap.push {cls:=.type "slice",data:=.fields #[bZ,z,.none]} };exact tail_any (ops:=[.ref a.heap.objs.size,u]) bf N P (by with_unfolding_all rfl)
def lD(w:List af)(R S:Option Int):List af:=((w.drop<|c4.b4 w.length 0 R).take (c4.b4 w.length w.length S-c4.b4 w.length 0 R))
def Bi(w:List af)(R S:Option Int):(lD w R S).length<=w.length:=by
 unfold lD;rw[fG,gc];lia
def Oq(Qw:Φ):af->Option Int->Option Int->aw->cz->Prop:=(λf R S j D=>∃g w,f=.ref g/\cb Qw j g w/\
 ¬ (c4.b4 w.length 0 R=0/\c4.b4 w.length w.length S=w.length)/\∀q,j q=Y->D (.ref q) (upd j q<|.tup<|lD w R S))
def GC:q8 b (Oq b.K):=by
 intro Q h B j f u bZ z R S aU D G i Qx bo k c;let⟨g,@w,rfl,l,m,p⟩:=c;cases i;let⟨@QD,s,bf,d⟩:=G.tuple l;have a:QD.toArray.size=w.length:=by rw[cB];exact s.length.symm
 refine⟨"tuple",_,n5.lookup,bf.typeIs,?_⟩;refine c4.GK bf Qx bo k (by rw[a];exact m) ?_ (by rw[a];exact d);rw[a];refine⟨.ref h.heap.objs.size,_,G.laid (QZ:=h.toks) (o:=.tup (lD w R S)) (λe n p=>b6 _ p) (a5 _) ?_,rfl,p _<|G.a0.fresh<|a5 _⟩;exact⟨eG (Bi w R S) d,_,(s.drop<|c4.b4 w.length 0 R).take<|c4.b4 w.length w.length S-c4.b4 w.length 0 R,lF.new _ _⟩
def Jj(Qw:Φ):bS:=(λf H j D=>∃g e w QJ,f=.ref g/\H=.ref e/\cb Qw j g w/\cb Qw j e QJ/\w≠[]/\w.length+QJ.length<=sizeLine/\
 (QJ=[]->D (.ref g) j)/\(QJ≠[]->∀q,j q=Y->D (.ref q) (upd j q<|.tup<|w++QJ)))
def bM.te{w:List af}(s:bM w QR):QR=[]↔w=[]:=by
 cases s with
 |nil=>simp
 |cons _ _=>simp
def MD:dI b (fR .Add) (Jj b.K):=by
 intro Q h B j f H u J D G m n c;let⟨g,e,w,@QJ,rfl,rfl,q,r,s,k,t,v⟩:=c;cases m;cases n;let⟨@QD,i,x,W⟩:=G.tuple q;let⟨@y,d,Rf,W⟩:=G.tuple r;refine c4.HQ x Rf (λa=>s<|i.te.mp a) (λa=>⟨.ref g,j,G,rfl,t<|d.te.mp a⟩) (λa=>?_) (by rw[<-i.length,<-d.length];exact k);refine⟨.ref h.heap.objs.size,_,G.laid (QZ:=h.toks) (o:=.tup (w++QJ)) (λe z p=>b6 _ p) (a5 _) ?_,rfl,v (λl=>a<|d.te.mpr l) _<|G.a0.fresh<|a5 _⟩;exact⟨by rw[dx];exact k,_,i.append d,lF.new _ _⟩
end
def i_(r:Nat)(a:Int):Option Nat:=(if 0<=a then (if a<r then Z a.toNat else Y) else if -(r:Int)<=a then Z (a+r).toNat else Y)
def dj{QT:Type}(w:List QT)(a:Int):Option QT:=((i_ w.length a).bind λi=>w[i]?)
def BV{i:Nat}(c:i_ r a=Z i):vN a r=Z i/\i<r /\ -(r:Int)<=a/\a<r:=by
 unfold i_ at c;by_cases b:0<=a
 ·rw[aE b]at c;by_cases t:a<r
  ·rw[aE t]at c;have d:a.toNat=i:=Option.some.inj c;exact⟨by rw[r7 b t,d],⋯,⋯,t⟩
  ·rw[aK t]at c;cases c
 ·rw[aK b]at c;by_cases t : -(r:Int)<=a
  ·rw[aE t]at c;have d:(a+r).toNat=i:=Option.some.inj c;exact⟨by rw[x2 ⋯ t,d],⋯,t,⋯⟩
  ·rw[aK t]at c;cases c
def y3{w:List QT}{u:QT}(c:dj w a=Z u):∃i,vN a w.length=Z i/\w[i]?=Z u/\i<w.length /\ -(w.length:Int)<=a/\a<w.length:=by
 unfold dj at c;cases d:i_ w.length a with
 |none=>rw[d]at c;cases c
 |some i=>
  rw[d]at c;let@⟨t,E,b,e⟩:=BV d;exact⟨i,t,c,E,b,e⟩
def rD(e:bk):Prop:=(∀o a,subscripted e aq o a=operate [o,a] (lT o a))
def ip(b:aJ)(s:bS):Prop:=(
 ∀(k a:bk) (Q:List (ak×a3)) (h:ah) (B:aW) (j:aw) (f H:af) (u J:ae) (D:cz),aA b Q B j h->b7 f u->b7 H J->s f H j D->
  subscripted a aq u J=operate [u,J] (lT u J)->wpAny (aO b.prog b.w) b.A (Ex k a u J) (d4 b Q B D) b.cE h)
def u3(b:aJ)(id:String)(s:af->List af->aw->cz->Prop):Prop:=(
 ∀(Q:List (ak×a3)) (h:ah) (B:aW) (j:aw) (f:af) (w:List af) (u:ae) (QR:List ae) (D:cz),aA b Q B j h->b7 f u->bM w QR->s f w j D->
  wpAny (aO b.prog b.w) b.A (call (.builtin id) (u::QR)) (d4 b Q B D) b.cE h)
section
variable{b:aJ}{g e:bk}{Q9 Rp:b2}{QK:Pos}
def ip.or{Ra:bS}(c:ip b s)(T:ip b Ra):ip b (λf H j D=>s f H j D\/Ra f H j D):=by
 intro k a Q h B j f H u J D G d e p Qx;rcases p with p|p
 ·exact c k a Q h B j f H u J D G d e p Qx
 ·exact T k a Q h B j f H u J D G d e p Qx
def L1(a:ip b s)(d:bN b g Q9)(i:bN b e Rp)(Qx:rD e):bN b (.Subscript g e QK) (t4 s Q9 Rp):=by
 intro Q h B j D G c;exact Subscript_ (w1 d i G c λu J k f H QN l m n p=>a g e Q k B QN f H u J D l m n p<|Qx _ _)
def KP(Qw:Φ):bS:=(λf H j D=>∃q w a u,f=.ref q/\H=.int a/\cT Qw j q w/\dj w a=Z u/\D u j)
def Hh(Qw:Φ):bS:=(λf H j D=>∃q w a u,f=.ref q/\H=.int a/\cb Qw j q w/\dj w a=Z u/\D u j)
def M3:ip b (KP b.K):=by
 intro k I Q h B j f H u J D G n o c Qx;let⟨q,w,a,@r,rfl,rfl,v,x,p⟩:=c;cases n;let⟨@A,rfl⟩:=o;let⟨@QD,s,bo,L⟩:=G.list v;let⟨@i,t,E,M,y,z⟩:=y3 x;let⟨@l,e,C⟩:=s.get E;have F:=s.length;have N:=nf;have g:d4 b Q B D l h:=⟨r,j,G,C,p⟩;by_cases m:0<=a
 ·have d:a.toNat=i:=by
   rw[r7 m z]at t;exact Option.some.inj t
  exact item_listR bo.isList m ⋯ (by rw[d];simpa using e) g Qx
 ·have d:(a+(QD.toArray.size:Int)).toNat=i:=by
   rw[x2 ⋯ y]at t;rw[cB,<-F];exact Option.some.inj t
  exact Cj (x:=l) bo.isList.typeIs D_.lookup
   (wpAny_getItem_list_neg (Q:=λs Qp=>s=l/\d4 b Q B D s Qp) bo.isList ⋯ (by rw[cB]<;>lia) ⋯ (by rw[d];simpa using e) ⟨rfl,g⟩) Qx
def J7:ip b (Hh b.K):=by
 intro k y Q h B j f H u J D G d e c Qx;let⟨q,w,a,@g,rfl,rfl,m,n,p⟩:=c;cases d;let⟨@A,rfl⟩:=e;let⟨@QD,s,bo,z⟩:=G.tuple m;let⟨@i,t,E,C,F,I⟩:=y3 n;let⟨@l,o,r⟩:=s.get E;have v:=s.length;have L:=nf;have x:d4 b Q B D l h:=⟨g,j,G,r,p⟩;exact Cj (x:=l) bo.typeIs slot_tuple_getitem.lookup
  (getItem_tuple (j:=i) (Q:=λs Qp=>s=l/\d4 b Q B D s Qp) bo ⋯ ⋯ (by rw[cB,<-v];exact t) ⇑o ⟨rfl,x⟩) Qx
def GL(QD:List ae)(r i:Nat)(J:ae):a3.mapSeq (·.setIfInBounds i J) {cls:=.type "list",data:=.seq QD.toArray r}={cls:=.type "list",data:=.seq (QD.set i J).toArray r}:=by
 simp[a3.mapSeq]
variable{w:List af}
def aA.lst(G:aA b Q B j h)(c:j q=Z (.lst w)):
  ∃(QD:List ae) (r:Nat),bM w QD/\h.heap.get? q=Z {cls:=.type "list",data:=.seq QD.toArray r}/\w.length<=sizeLine:=by
 let@⟨a,⟨QD,@r,s,d⟩⟩:=G.a0 q _ c;exact⟨QD,r,s,d,a⟩
def aA.Ja{QJ:List af}{a:Nat}{C:a3->a3}(G:aA b Q B j h)(c:j q=Z (.lst w))(i:h.heap.get? q=Z {cls:=.type "list",data:=.seq QD.toArray r})(g:C {cls:=.type "list",data:=.seq QD.toArray r}={cls:=.type "list",data:=.seq y.toArray a})(s:bM QJ y)(k:QJ.length<=sizeLine)(A:Nat):
  aA b Q B (upd j q<|.lst QJ) {h with heap:=h.heap.update q C,toks:=A}:=by
 have d:(h.heap.update q C).get? q=Z {cls:=.type "list",data:=.seq y.toArray a}:=by
  rw[oK C i (by rw[g]<;>rfl),g]
 refine G.write (f:=q) (d:=q) (by rw[c];trivial) (.inl rfl) (λe J l p=>(j9 _ _<|fP l).trans p) ⟨_,d⟩ ?_;exact⟨k,y,a,s,d⟩
def PB:af->af->af->aw->(aw->Prop)->Prop:=(λo a u j D=>∃q w n i,o=.ref q/\a=.int n/\j q=Z (.lst w)/\i_ w.length n=Z i/\D (upd j q<|.lst<|w.set i u))
def K1:w8 b PB:=by
 intro Q h B j o a u H I J D G k y z c;let⟨q,w,n,@i,rfl,rfl,g,C,p⟩:=c;cases k;let⟨@A,rfl⟩:=y;let⟨QD,@r,s,d,F⟩:=G.lst g;let@⟨t,E,l,m⟩:=BV C;have e:=s.length;have L:=nf;have v:aA b Q B (upd j q<|.lst<|w.set i u) {h with heap:=h.heap.update q (a3.mapSeq (·.setIfInBounds i J))}:=
  G.Ja g d (GL QD r i J) (s.set z i) (by rw[wk];exact F) h.toks;by_cases x:0<=n
 ·have f:n.toNat=i:=by
   rw[r7 x m]at t;exact Option.some.inj t
  exact PySem.W.ki_setAt d x ⋯ (by rw[cB,<-e];exact m) (by rw[f];exact⟨_,v,p⟩)
 ·have f:(n+(QD.toArray.size:Int)).toNat=i:=by
   rw[x2 ⋯ l]at t;rw[cB,<-e];exact Option.some.inj t
  exact PySem.W.ki_setBack d ⋯ (by rw[cB,<-e];exact l) ⋯ (by rw[f];exact⟨_,v,p⟩)
def I3(R S:Option Int)(r:Nat):(nr R S Y r).1=((c4.b4 r 0 R:Nat):Int)/\(nr R S Y r).2.1=((c4.b4 r r S:Nat):Int)/\(nr R S Y r).2.2=1:=by
 refine⟨?_,?_,rfl⟩
 ·cases R with
  |none=>simp[nr,c4.b4]
  |some a=>
   simp only[nr,c4.b4,D0,show (1:Int)>0 by decide,gv];by_cases c:a<0
   ·simp only[c,gv]<;>lia
   ·simp only[c,e1]<;>lia
 ·cases S with
  |none=>simp[nr,c4.b4]
  |some a=>
   simp only[nr,c4.b4,D0,show (1:Int)>0 by decide,gv];by_cases c:a<0
   ·simp only[c,gv]<;>lia
   ·simp only[c,e1]<;>lia
def NC(QD:List ae)(R S:Option Int):slicePick QD.toArray R S Y=((QD.drop<|c4.b4 QD.length 0 R).take<|c4.b4 QD.length QD.length S-c4.b4 QD.length 0 R).toArray:=by
 let@⟨t,E,a⟩:=I3 R S QD.toArray.size;unfold slicePick;rw[t,E,a];simp only[sliceRange_one,pick_run,cB]<;>rfl
def F_(Qw:Φ):af->Option Int->Option Int->aw->cz->Prop:=(λf R S j D=>∃g w,f=.ref g/\cT Qw j g w/\∀q,j q=Y->D (.ref q) (upd j q<|.lst<|lD w R S))
def EW:q8 b (F_ b.K):=by
 intro Q h B j f u bZ z R S aU D G a Qx bo d c;let⟨g,@w,rfl,i,p⟩:=c;cases a;let⟨@QD,s,bf,k⟩:=G.list i;have l:=s.length;refine⟨"list",_,D_.lookup,bf.isList.typeIs,?_⟩;refine wpAny_getItem_list_slice bf.isList Qx bo d .none ↥0 ?_ (by rw[cB]<;>lia);rw[NC,<-l];refine⟨.ref h.heap.objs.size,_,G.laid (QZ:=h.toks) (o:=.lst (lD w R S)) (λe m p=>b6 _ p) (a5 _) ?_,rfl,p _<|G.a0.fresh<|a5 _⟩;exact⟨eG (Bi w R S) k,_,0,(s.drop<|c4.b4 w.length 0 R).take<|c4.b4 w.length w.length S-c4.b4 w.length 0 R,c_ _ rfl⟩
def PQ:ep b (.builtin "len") (λw j D=>∃q QJ,w=[.ref q]/\(cT b.K j q QJ\/cb b.K j q QJ)/\D (.int QJ.length) j):=by
 intro Q h B j w QR D G s c;let⟨q,@QJ,rfl,a,p⟩:=c;let⟨@J,rfl,e⟩:=hF s;cases e;have g:=nf;rcases a with a|a
 ·let⟨@QD,Ra,bo,f⟩:=G.list a;have d:=Ra.length;exact Calls.call_len_list bo.isList (by simp only[cB]<;>lia) ⟨.int QJ.length,j,G.tok _,⟨h.toks+1,by rw[cB,d]⟩,p⟩
 ·let⟨@QD,Ra,bo,f⟩:=G.tuple a;have d:=Ra.length;exact len_tuple bo (by simp only[cB]<;>lia) ⟨.int QJ.length,j,G.tok _,⟨h.toks+1,by rw[cB,d]⟩,p⟩
def Lb:ep b (.builtin "len") (λw j D=>∃a,w=[.str a]/\a.length<=sizeLine/\D (.int a.length) j):=by
 intro Q h B j w QR D G s c;let⟨@a,rfl,d,p⟩:=c;let⟨@J,rfl,⟨@A,rfl⟩⟩:=hF s;have e:=nf;exact len_str ⋯ ⟨.int a.length,j,G.tok _,⟨_,rfl⟩,p⟩
def ep.or{C:ae}{s Ra:List af->aw->cz->Prop}(c:ep b C s)(T:ep b C Ra):ep b C (λw j D=>s w j D\/Ra w j D):=by
 intro Q h B j w QR D G rs p;rcases p with p|p
 ·exact c Q h B j w QR D G rs p
 ·exact T Q h B j w QR D G rs p
def GZ:ep b (.type "list") (λw j D=>∃q QJ,w=[.ref q]/\(cT b.K j q QJ\/cb b.K j q QJ)/\∀x,j x=Y->D (.ref x) (upd j x<|.lst QJ)):=by
 intro Q h B j w QR D G s c;let⟨q,@QJ,rfl,f,p⟩:=c;let⟨@J,rfl,t⟩:=hF s;cases t;have n:∀(QD:List ae),bM QJ QD->QJ.length<=sizeLine->∀(T:aV) (a:Nat),(∀e R,h.heap.get? e=Z R->T.get? e=Z R)->
   T.get? h.heap.objs.size=Z {cls:=.type "list",dict:=Y,data:=.seq QD.toArray a,slots:=#[]}->d4 b Q B D (.ref h.heap.objs.size) {h with heap:=T}:=λQD Ra g T a da d=>
  ⟨.ref h.heap.objs.size,_,G.laid (QZ:=h.toks) da (a5 _)<|show eK b.prog b.w _ T _ (.lst QJ) from ⟨g,QD,a,Ra,d⟩,rfl,p _<|G.a0.fresh<|a5 _⟩;rcases f with f|f
 ·let⟨@QD,Ra,bo,g⟩:=G.list f;have u:=Ra.length;let⟨@o,i,k,⟨@r,m⟩⟩:=bo.isList;exact FN q (.inl rfl) i k m (λT a da d=>n QD Ra g T a da d) (by simp only[cB]<;>lia)
 ·let⟨@QD,Ra,bo,g⟩:=G.tuple f;have u:=Ra.length;let⟨@o,i,k,⟨@r,m⟩⟩:=bo;exact FN q (.inr rfl) i k m (λT a da d=>n QD Ra g T a da d) (by simp only[cB]<;>lia)
def Oh:ep b (.type "tuple") (λw j D=>∃q QJ,w=[.ref q]/\((cT b.K j q QJ/\∀x,j x=Y->D (.ref x) (upd j x<|.tup QJ))\/(cb b.K j q QJ/\D (.ref q) j))):=by
 intro Q h B j w QR D G s c;let⟨q,@QJ,rfl,c⟩:=c;let⟨@J,rfl,i⟩:=hF s;cases i;rcases c with ⟨a,p⟩|⟨a,p⟩
 ·let⟨@QD,Ra,bo,f⟩:=G.list a;have m:=Ra.length;refine call_tuple_list bo.isList (λT da=>?_) (by simp only[cB]<;>lia);have g:aA b Q B j {h with heap:=T}:=G.kept (QZ:=h.toks) da;have k:aA b Q B (upd j T.objs.size<|.tup QJ) {h with heap:=T.push {cls:=.type "tuple",data:=.seq QD.toArray} }:=
   g.laid (QZ:=h.toks) (λe o d=>b6 _ d) (a5 _) (show eK b.prog b.w _ _ _ (.tup QJ) from ⟨f,QD,Ra,lF.new _ _⟩);exact⟨.ref T.objs.size,_,k,rfl,p _<|g.a0.fresh<|a5 _⟩
 ·let⟨@QD,Ra,bo,f⟩:=G.tuple a;exact call_tuple_same bo ⟨.ref q,j,G,rfl,p⟩
def l6(Qw:Φ)(Qq:String)(f:af)(j:aw):Prop:=(match f with
 |.str _=>Qq = "str"
 |.int _=>Qq = "int"
 |.ref q=>(Qq = "list" /\ ∃w,cT Qw j q w)\/(Qq = "tuple" /\ ∃o,Qw.lookup q=Z o/\o.cls=.type "tuple" /\ o.dict=Y)\/
   (Qq = "dict" /\ ((∃QG,j q=Z (.dn QG))\/∃QG,j q=Z (.aH QG)))\/(Qq = "set" /\ ∃QI r,j q=Z (.set QI r))
 |_=>False)
def y1{Qq:String}{f:af}{u:ae}(G:aA b Q B j h)(s:b7 f u)(ty:l6 b.K Qq f j):
  h.TypeIs u Qq/\∀g,u=.ref g->∃l,h.heap.get? g=Z l/\l.dict=Y:=by
 cases f with
 |str e=>
  let⟨@A,rfl⟩:=s;cases (show Qq = "str" from ty);exact⟨typeIs_str h e A,λ_ d=>nomatch d⟩
 |int a=>
  let⟨@A,rfl⟩:=s;cases (show Qq = "int" from ty);exact⟨typeIs_int h a A,λ_ d=>nomatch d⟩
 |ref q=>
  cases s;rcases ty with ⟨rfl,w,n⟩|⟨rfl,o,c,p,i⟩|⟨rfl,c⟩|⟨rfl,QI,r,c⟩
  ·let⟨@QD,W,bo,W⟩:=G.list n;refine⟨bo.isList.typeIs,λg d=>?_⟩;cases d;let⟨o,@r,d,m,i,W⟩:=bo;exact⟨o,d,i⟩
  ·refine⟨⟨o,G.oH q o c,p⟩,λg d=>?_⟩;cases d;exact⟨o,G.oH _ o c,i⟩
  ·have e:∃o,h.heap.get? q=Z o/\o.ExactDict:=by
    rcases c with ⟨QG,c⟩|⟨QG,c⟩
    ·let@⟨_,_,⟨@_,_,⟨o,_,@_,d,Rh,_⟩⟩⟩:=G.a0 q _ c;exact⟨o,d,Rh⟩
    ·let@⟨_,_,⟨@_,_,⟨o,_,@_,d,Rh,_⟩⟩⟩:=G.a0 q _ c;exact⟨o,d,Rh⟩
   let⟨@o,d,Rh⟩:=e;refine⟨⟨o,d,Rh.1⟩,λg k=>?_⟩;cases k;exact⟨o,d,Rh.2.1⟩
  ·let⟨o,W,W,@W,d,Rh,W⟩:=G.a0 q _ c;refine⟨⟨o,d,Rh.1⟩,λg k=>?_⟩;cases k;exact⟨o,d,Rh.2.1⟩
 |_=>exact False.elim ty
def GR(Qw:Φ)(Qq:String)(s:af->List af->aw->cz->Prop)(i:b2):b2:=(λB j D=>i B j λf QB=>l6 Qw Qq f QB/\s f [] QB D)
def H8(Qw:Φ)(Qq:String)(s:af->List af->aw->cz->Prop)(i:b2)(A:eW):b2:=(λB j D=>i B j λf QB=>l6 Qw Qq f QB/\A B QB λw QN=>s f w QN D)
variable{o d:bk}{Qs:List bk}{i:b2}{A:eW}{name:aB}{RB x:Pos}{Qq id:String}{s:af->List af->aw->cz->Prop}
def HE(bL:tF Qq)(e:Slot Qq name id)(g:qG (.builtin id)=pure (.type "method_descriptor"))(k:u3 b id s)(l:bN b o i)(m:t8 o name b.env (b8 o b.env)=b8 o b.env:=by rfl)(n:(RB.endLine==x.line)=X:=by rfl):bN b (.Call (.Attribute o name RB) [] [] x) (GR b.K Qq s i):=by
 intro Q h B j D G c;refine wpAny_Call_method0_late m n (bU (l Q h B j _ G c) λu p q=>?_);let⟨f,@QB,a,d,ty,r⟩:=q;let@⟨t,E⟩:=y1 a d ty;exact⟨Qq,id,bL,e,g,t,E,z3 rfl<|PySem.evalArgs_none<|k Q p B QB f [] u [] D a d .nil r⟩
def Gr(bL:tF Qq)(l:Slot Qq name id)(m:qG (.builtin id)=pure (.type "method_descriptor"))(n:u3 b id s)(p:bN b o i)(q:ho b (d::Qs) A)(r:t8 o name b.env (b8 o b.env)=b8 o b.env:=by rfl)(v:((gh x<|bQ (d::Qs) b.env).all (λf=>!f.1)&&(backToKw x<|keywordEach [] b.env).all (λf=>f.1.isSome)
   && decide ((d::Qs).length+([]:List rk).length+(if ([]:List rk).isEmpty then 0 else 1)<30))=X:=by rfl)(w:(RB.endLine==x.line)=X:=by rfl)(Qx:bQ (d::Qs) b.env=(aq,b8 d b.env)::bQ Qs b.env:=by rfl)(y:(gh x<|bQ Qs b.env).any (·.1)=aq:=by rfl):
  bN b (.Call (.Attribute o name RB) (d::Qs) [] x) (H8 b.K Qq s i A):=by
 intro Q h B j D G c;refine wpAny_Call_method_late r v w rfl (bU (p Q h B j _ G c) λu z a=>?_);let⟨f,@QB,e,g,ty,C⟩:=a;let@⟨t,E⟩:=y1 e g ty;refine⟨Qq,id,bL,l,m,t,E,?_⟩;have k:=q x Q z B QB _ e C;rw[Qx]at k ⊢;refine z3 (by show (aq || (gh x<|bQ Qs b.env).any (·.1))=aq;rw[y]<;>rfl) (Calls.evalArgs_plain ?_);refine bU k λQR F a=>?_;let⟨U,@QN,H,I,J⟩:=a;exact n Q F B QN f U u QR D H g I J
end
def uS(b:aJ)(id:String)(s:af->List af->aw->cz->Prop):Prop:=(
 ∀(Q:List (ak×a3)) (h:ah) (B:aW) (j:aw) (f:af) (w:List af) (u:ae) (QR:List ae) (D:cz),aA b Q B j h->b7 f u->bM w QR->s f w j D->
  wpAny (aO b.prog b.w) b.A (call (.builtin id) (u::QR)) (d4 b Q B D) b.cE h)
theorem bM.one:∀{f:af}{QR:List ae},bM [f] QR->∃J,QR=[J]/\b7 f J
 |_,_,.cons s .nil=>⟨_,rfl,s⟩
theorem bM.zero:∀{QR:List ae},bM [] QR->QR=[]
 |_,.nil=>rfl
def bM.dropLast{w:List af}(c:bM w QR):bM w.dropLast QR.dropLast:=by
 induction c with
 |nil=>exact .nil
 |cons s A a=>
  cases A with
  |nil=>exact .nil
  |cons p QZ=>exact .cons s a
theorem bM.eraseIdx:∀{w:List af}{QR:List ae} (a:Nat),bM w QR->bM (w.eraseIdx a) (QR.eraseIdx a)
 |_,_,_,.nil=>.nil
 |_,_,0,.cons _ A=>A
 |_,_,a+1,.cons s A=>.cons s (bM.eraseIdx a A)
def JX(x:List QT):x.eraseIdx (x.length-1)=x.dropLast:=by
 induction x with
 |nil=>rfl
 |cons g s a=>
  cases s with
  |nil=>rfl
  |cons e s=>
   have d:(g::e::s).length-1=((e::s).length-1)+1:=by
    have t:(g::e::s).length=s.length+2:=rfl;have E:(e::s).length=s.length+1:=rfl;lia
   rw[d,List.eraseIdx_cons_succ,a];all_goals rfl
theorem Ds{QT:Type}:∀(x:List QT) (a:Nat),(x.eraseIdx a).length<=x.length
 |[],_=>a5 _
 |_::_,0=>C1 _
 |_::s,a+1=>Nat.succ_le_succ (Ds s a)
section
variable{b:aJ}{Q:List (ak×a3)}{B:aW}{j:aw}{h:ah}{x e:ak}{w QJ M:List af}
def aA.vi{C:Array ae->Array ae}(G:aA b Q B j h)(a:j x=Z (.lst w))(d:h.heap.get? x=Z {cls:=.type "list",data:=.seq QD.toArray r})(c:C QD.toArray=y.toArray)(e:bM QJ y)(g:QJ.length<=sizeLine):
  aA b Q B (upd j x<|.lst QJ) {h with heap:=h.heap.update x (a3.mapSeq C),toks:=QZ}:=by
 have p:=Dg d C;rw[c]at p;refine G.write (f:=x) (d:=x) (by rw[a];exact trivial) (.inl rfl) (λl J i k=>(j9 h.heap (a3.mapSeq C)<|fP i).trans k) ⟨_,p⟩ ?_;exact⟨g,y,_,e,p⟩
def aA.Ph(G:aA b Q B j h)(a:bM QJ QD)(c:QJ.length<=sizeLine):
  aA b Q B (upd j h.heap.objs.size<|.lst QJ) {h with heap:=h.heap.push {cls:=.type "list",data:=.seq QD.toArray},toks:=QZ}:=
 G.laid (λ_ W p=>b6 _ p) (a5 _) ⟨c,QD,0,a,c_ _ rfl⟩
def aA.fresh(G:aA b Q B j h):j h.heap.objs.size=Y:=G.a0.fresh (a5 _)
def aA.hU(G:aA b Q B j h)(a:j x=Z (.lst w)):w.length<=sizeLine/\∃(QD:List ae) (r:Nat),bM w QD/\w.length=QD.length/\h.heap.get? x=Z {cls:=.type "list",data:=.seq QD.toArray r}:=by
 let@⟨c,⟨QD,@r,s,d⟩⟩:=G.a0 x _ a;exact⟨c,QD,r,s,s.length,d⟩
def P_(c:r<=sizeLine):bq.List.listTooLong r=aq:=by
 unfold bq.List.listTooLong;exact c0 ⋯
end
section
variable{b:aJ}
def Iz:af->List af->aw->cz->Prop:=(λf U j D=>∃x w H,f=.ref x/\U=[H]/\j x=Z (.lst w)/\w.length<sizeLine/\D .aT (upd j x<|.lst<|w++[H]))
def NK:uS b "list.append" Iz:=by
 intro Q h B j f U u QR D G e g c;let⟨x,w,@H,rfl,rfl,a,k,p⟩:=c;cases e;let⟨@J,rfl,i⟩:=g.one;let@⟨z,⟨QD,@r,s,l,d⟩⟩:=G.hU a;refine qS Cw ⟨_,d,rfl⟩ AU (Eh _ _) (BU x QD.toArray r J (by rw[cB];lia)) ⟨d,?_⟩;refine⟨.aT,_,G.vi (y:=QD++[J]) a d ↥0 (s.append<|.cons i .nil) ?_,rfl,p⟩;rw[dx,fk];lia
def Oe:af->List af->aw->cz->Prop:=(λf U j D=>∃x w H,f=.ref x/\U=[]/\j x=Z (.lst w)/\w[w.length-1]?=Z H/\D H (upd j x<|.lst w.dropLast))
def Oa:uS b "list.pop" Oe:=by
 intro Q h B j f U u QR D G e g c;let⟨x,w,@H,rfl,rfl,a,i,p⟩:=c;cases e;have k:=g.zero;subst k;let@⟨z,⟨QD,@r,s,l,d⟩⟩:=G.hU a;let⟨@J,m,n⟩:=s.get i;have o:QD.toArray[QD.toArray.size-1]?=Z J:=by
  show QD.toArray[QD.length-1]?=Z J;rw[<-eE,<-l];exact m
 refine qS yQ ⟨_,d,rfl⟩ B_ (F.args_list_pop_1 _) (MeetsSeq.list_pop_last x QD.toArray r J o (by rw[cB];lia)) ⟨d,?_⟩;refine⟨H,_,G.vi (y:=QD.dropLast) a d ?_ s.dropLast ?_,n,p⟩
 ·show QD.toArray.eraseIdxIfInBounds (QD.toArray.size-1)=QD.dropLast.toArray;rw[cB,wg,JX]
 ·rw[List.length_dropLast];lia
def G1:af->List af->aw->cz->Prop:=(λf U j D=>∃x w a n H,f=.ref x/\U=[.int a]/\j x=Z (.lst w) /\ -(2^63)<=a/\a<2^63/\vN a w.length=Z n/\w[n]?=Z H/\D H (upd j x<|.lst<|w.eraseIdx n))
def LX:uS b "list.pop" G1:=by
 intro Q h B j f U u QR D G g i c;let⟨x,w,a,n,@H,rfl,rfl,e,t,E,k,m,p⟩:=c;cases g;let⟨@J,rfl,o⟩:=i.one;let⟨@A,rfl⟩:=o;let@⟨z,⟨QD,@r,s,q,d⟩⟩:=G.hU e;let⟨@l,v,C⟩:=s.get m;refine qS yQ ⟨_,d,rfl⟩ B_ (F.args_list_pop_2 _ _)
  (MeetsSeq.list_pop_at x QD.toArray r a A n l (fitsIndex_both t E) (by rw[cB,<-q];exact k) (by rw[<-eE];exact v) (by rw[cB];lia)) ⟨d,?_⟩;refine⟨H,_,G.vi (y:=QD.eraseIdx n) e d ?_ (s.eraseIdx n) ?_,C,p⟩
 ·show QD.toArray.eraseIdxIfInBounds n=(QD.eraseIdx n).toArray;rw[wg]
 ·have:=Ds w n;lia
def HY:bS:=(λf H j D=>∃x e w M,f=.ref x/\H=.ref e/\j x=Z (.lst w)/\j e=Z (.lst M)/\w.length+M.length<=sizeLine/\∀q,j q=Y->D (.ref q) (upd j q<|.lst<|w++M))
def F3:dI b (fR .Add) HY:=by
 intro Q h B j f H u J D G g i c;let⟨x,e,w,@M,rfl,rfl,k,l,q,p⟩:=c;cases g;cases i;let@⟨z,⟨QD,@r,s,t,d⟩⟩:=G.hU k;let@⟨v,⟨a,@y,m,A,n⟩⟩:=G.hU l;refine PySem.P.add_list d n ?_ (by rw[cB,cB];lia);have o:QD.toArray++a.toArray=(QD++a).toArray:=by simp
 rw[o];exact⟨.ref _,_,G.Ph (QZ:=h.toks) (s.append m) (by rw[dx];lia),rfl,p _ G.fresh⟩
end
section
variable{QP:Type}[DecidableEq QP]
def hh(QG:List (QP×af))(n:QP):Option af:=((QG.find? λa=>decide (a.1=n)).map (·.2))
def gR(QG:List (QP×af))(n:QP)(u:af):List (QP×af):=(
 if (QG.any λa=>decide (a.1=n))=X then QG.map (λa=>if a.1=n then (a.1,u) else a) else QG++[(n,u)])
def se{q:QP×af}{s:List (QP×af)}{n:QP}(d:q.1=n):hh (q::s) n=Z q.2:=by simp[hh,jC,d]
def sk{q:QP×af}{s:List (QP×af)}{n:QP}(d:¬ q.1=n):hh (q::s) n=hh s n:=by simp[hh,jC,d]
theorem Ag(n:QP):∀QG:List (QP×af),(QG.any λa=>decide (a.1=n))=(hh QG n).isSome
 |[]=>rfl
 |q::s=>by
  rw[mc];by_cases d:q.1=n
  ·simp only[se d,dd d,z1,Option.isSome_some]
  ·rw[sk d,c0 d,BF];exact Ag n s
def A4(QG:List (QP×af))(n:QP)(u:af):(gR QG n u).length<=QG.length+1:=by
 unfold gR;split
 ·rw[bj];lia
 ·rw[dx,ey,jg];lia
def j6.q1{J:Option ae}(s:j6 o J):o.isSome=J.isSome:=by
 cases o with
 |none=>cases J with
  |none=>rfl
  |some _=>exact (show False from s).elim
 |some _=>cases J with
  |none=>exact (show False from s).elim
  |some _=>rfl
def fp.val{QG:List (QP×af)}{U:List (QP×ae)}(s:fp QG U)(n:QP):j6 (hh QG n) (nj U n):=by
 unfold fp at s;induction s with
 |nil=>exact True.intro
 |@cons q p QF a c A f=>
  let@⟨t,E⟩:=c;by_cases d:q.1=n
  ·have b:p.1=n:=t.symm.trans d;have e:nj (p::a) n=Z p.2:=by simp[nj,jC,b]
   rw[se d,e];exact E
  ·have b:¬ p.1=n:=λg=>d (t.trans g);have e:nj (p::a) n=nj a n:=by simp[nj,jC,b]
   rw[sk d,e];exact f
def fp.any{QG:List (QP×af)}{U:List (QP×ae)}(s:fp QG U)(n:QP):(QG.any λa=>decide (a.1=n))=U.any λa=>decide (a.1=n):=by
 unfold fp at s;induction s with
 |nil=>rfl
 |cons c A b=>rw[mc,mc,b,c.1]
def fp.yo{QG:List (QP×af)}{U:List (QP×ae)}(s:fp QG U)(n:QP){H:af}{J:ae}(b:b7 H J):
  fp (QG.map λa=>if a.1=n then (a.1,H) else a) (U.map λa=>if a.1=n then (a.1,J) else a):=by
 unfold fp at s ⊢;induction s with
 |nil=>exact .nil
 |@cons q p QF g c A e=>
  rw[cH,cH];refine .cons ?_ e;let@⟨t,E⟩:=c;by_cases d:q.1=n
  ·rw[aE d,aE<|t.symm.trans d];exact⟨t,b⟩
  ·rw[aK d,aK<|λf=>d<|t.trans f];exact⟨t,E⟩
def fp.put{QG:List (QP×af)}{U:List (QP×ae)}(s:fp QG U)(n:QP){H:af}{J:ae}(a:b7 H J):fp (gR QG n H) (stored U n J):=by
 unfold gR stored;rw[s.any n];by_cases d:(U.any λb=>decide (b.1=n))=X
 ·rw[aE d,aE d];exact s.yo n a
 ·rw[aK d,aK d];exact d0.snoc s ⟨rfl,a⟩
def fp.length{QG:List (QP×af)}{U:List (QP×ae)}(s:fp QG U):QG.length=U.length:=d0.length s
end
def sH{n:d_}{J:ae}(s:b7 (b0 n) J):(lP Qr l).is n J=X:=by
 cases n with
 |inl a=>let⟨@A,d⟩:=(show ∃A,J=ae.int a A from s);subst d;exact Ki Qr l a A
 |inr f=>let⟨@A,d⟩:=(show ∃A,J=ae.str f A from s);subst d;exact Jq Qr l f A
abbrev fw(j:aw):List (List V×af)->List (List V×ak×ae)->Prop:=d0 λq p=>q.1=p.1/\hp j q.1 p.2.1/\b7 q.2 p.2.2
def fw.val(s:fw j QG w)(n:List V):j6 (hh QG n) ((k4 w n).map (·.2)):=by
 induction s with
 |nil=>exact True.intro
 |@cons q p QF a c A f=>
  let@⟨t,_,E⟩:=c;by_cases d:q.1=n
  ·have b:p.1=n:=t.symm.trans d;have e:k4 (p::a) n=Z p.2:=by simp[k4,jC,b]
   rw[se d,e];exact E
  ·have b:¬ p.1=n:=λg=>d (t.trans g);have e:k4 (p::a) n=k4 a n:=by simp[k4,jC,b]
   rw[sk d,e];exact f
def fw.yo(s:fw j QG w)(n:List V){H:af}{J:ae}(b:b7 H J):
  fw j (QG.map λa=>if a.1=n then (a.1,H) else a) (w.map<|putAt n J):=by
 induction s with
 |nil=>exact .nil
 |@cons q p QF h c A e=>
  rw[cH,cH];refine .cons ?_ e;let@⟨t,E,f⟩:=c;unfold putAt;by_cases d:q.1=n
  ·rw[aE d,aE<|t.symm.trans d];exact⟨t,E,b⟩
  ·rw[aK d,aK<|λg=>d<|t.trans g];exact⟨t,E,f⟩
def fw.put(s:fw j QG w)(n:List V){e:ak}{H:af}{J:ae}(b:hp j n e)(a:b7 H J):
  fw j (gR QG n H) (storedH w n e J):=by
 have d:(QG.any λc=>decide (c.1=n))=(k4 w n).isSome:=by
  rw[Ag,(s.val n).q1,tN]
 unfold gR storedH;rw[d];by_cases p:(k4 w n).isSome=X
 ·rw[aE p,aE p];exact s.yo n a
 ·rw[aK p,aK p];exact d0.snoc s ⟨rfl,b,a⟩
def fw.keeps(s:fw j QG w)(bf:∀e QJ,j e=Z (.tup QJ)->F e=Z (.tup QJ)):fw F QG w:=
 d0.tl s λ_ W a=>⟨a.1,a.2.1.mono bf,a.2.2⟩
section
variable{Qr:bz}{l:bc}{j:aw}{c:aV}{g:ak}
def Ad{J:fY}(ok:dQ Qr l j c)(d:jK j g J):eK Qr l j c g J:=d.ok ok
def oq{QG:List (d_×af)}(ok:dQ Qr l j c)(d:jK j g (.dn QG)):QG.length<=sizeLine/\(g==iV)=aq/\∃U,fp QG U/\c.DictOf (lP Qr l) g U:=
 show eK Qr l j c g (.dn QG) from Ad ok d
def MC{QG:List (d_×af)}(ok:dQ Qr l j c)(d:j g=Z (.dn QG)):QG.length<=sizeLine/\(g==iV)=aq/\∃U,fp QG U/\c.DictOf (lP Qr l) g U:=oq ok (.inl d)
mutual
theorem cq.eJ(ok:dQ Qr l j c):∀{v:V}{u:af}{J:ae},cq j v u->b7 u J->dr c v J
 |.aT,_,_,d,s=>by cases (show _=af.aT from d);exact s
 |.ax e,_,_,d,s=>by cases (show _=af.ax e from d);exact s
 |.int a,_,_,d,s=>by cases (show _=af.int a from d);exact s
 |.str f,_,_,d,s=>by cases (show _=af.str f from d);exact s
 |.fn g,_,_,d,s=>by cases (show _=af.ref g from d);exact s
 |.tup I,_,_,d,s=>by
  let⟨g,@w,rfl,t,E⟩:=d;cases s;let@⟨_,⟨@QD,b,⟨@o,h,i,⟨@r,k⟩⟩⟩⟩:=(show eK Qr l j c g (.tup w) from ok g _ t);exact⟨g,o,QD.toArray,r,rfl,h,(Prod.mk.inj i).1,k,by simpa using bx.eJ ok E b⟩
 |.aR I,_,_,d,s=>by
  let⟨g,w,@o,rfl,t,E⟩:=d;cases s;exact⟨g,rfl⟩
 |.fd,_,_,d,s=>by
  let⟨g,@o,rfl,t⟩:=d;cases s;exact⟨g,rfl⟩
theorem bx.eJ(ok:dQ Qr l j c):∀{I:List V}{U:List af}{QR:List ae},bx j I U->bM U QR->du c I QR
 |[],_,_,d,s=>by cases (show _=[] from d);cases s;rfl
 |v::I,_,_,d,s=>by
  let⟨u,@A,rfl,t,E⟩:=d;cases s with
  |cons a b=>exact⟨_,_,rfl,cq.eJ ok t a,bx.eJ ok E b⟩
end
def l9{QC:List V}(ok:dQ Qr l j c)(d:hp j QC g):(d8 Qr l).is c QC g:=⟨d.1,d.2.eJ ok rfl⟩
def qE{Qr:bz}{l:bc}{O:bl}(c:O.units+20<bK):(d8 Qr l).room O.in1:=show O.units+1+10<bK by lia
def rg(ok:dQ Qr l j c)(d:jK j g (.aH QG)):QG.length<=sizeLine/\(g==iV)=aq/\
  ∃w,fw j QG w/\c.DictOfH (d8 Qr l) g w:=by
 let@⟨e,H,⟨@w,s,⟨o,Qs,@Rc,t,E,h,i,m⟩⟩⟩:=(show eK Qr l j c g (.aH QG) from Ad ok d);refine⟨e,H,w,s,o,Qs,Rc,t,E,h,i,λf a=>?_,m⟩;have all:∀{x:List (List V×af)}{k:List (List V×ak×ae)},fw j x k->∀f∈k,(d8 Qr l).is c f.1 f.2.1:=by
  intro x k p;induction p with
  |nil=>intro f a;exact nomatch a
  |@cons q p QF r b A n=>
   intro f a;rcases cu.mp a with d|a
   ·subst d;exact l9 ok (by rw[<-b.1];exact b.2.1)
   ·exact n f a
 exact all s f a
def yO(ok:dQ Qr l j c)(d:j g=Z (.aH QG)):QG.length<=sizeLine/\(g==iV)=aq/\
  ∃w,fw j QG w/\c.DictOfH (d8 Qr l) g w:=rg ok (.inl d)
end
def gg(j:aw)(g:ak)(H:af)(s:Option af):Prop:=(
 (∃QG n,jK j g (.dn QG)/\H=b0 n/\s=hh QG n)\/∃QG n e,jK j g (.aH QG)/\H=.ref e/\hp j n e/\s=hh QG n)
def mB(j:aw)(g:ak)(H u:af)(F:aw):Prop:=(
 (∃QG n,j g=Z (.dn QG)/\H=b0 n/\QG.length<sizeLine/\F=upd j g (.dn<|gR QG n u))\/
 ∃QG n e,j g=Z (.aH QG)/\H=.ref e/\hp j n e/\QG.length<sizeLine/\F=upd j g (.aH<|gR QG n u))
def gg.k{j:aw}{g:ak}{QG:List (d_×af)}{n:d_}(d:j g=Z (.dn QG)):gg j g (b0 n) (hh QG n):=.inl ⟨QG,n,.inl d,rfl,rfl⟩
def gg.t{j:aw}{g e:ak}{QG:List (List V×af)}{n:List V}(d:j g=Z (.aH QG))(a:hp j n e):gg j g (.ref e) (hh QG n):=.inr ⟨QG,n,e,.inl d,rfl,a,rfl⟩
def mB.k{j:aw}{g:ak}{QG:List (d_×af)}{n:d_}{u:af}(d:j g=Z (.dn QG))(a:QG.length<sizeLine):mB j g (b0 n) u (upd j g<|.dn<|gR QG n u):=.inl ⟨QG,n,d,rfl,a,rfl⟩
def mB.t{j:aw}{g e:ak}{QG:List (List V×af)}{n:List V}{u:af}(d:j g=Z (.aH QG))(a:hp j n e)(b:QG.length<sizeLine):
  mB j g (.ref e) u (upd j g<|.aH<|gR QG n u):=.inr ⟨QG,n,e,d,rfl,a,b,rfl⟩
section
variable{b:aJ}{Q:List (ak×a3)}{B:aW}{j:aw}{h:ah}{g:ak}{H u:af}{J s:ae}{o:Option af}{O:bl}{Qt:ae->ah->Prop}
def aA.big(G:aA b Q B j h):iV<h.heap.objs.size:=by
 have c:dq<h.heap.objs.size:=(G.mod.glob.keeps G.eL).lt;exact o8 ∅ c
def O3(s:O.units+20<bK)(G:aA b Q B j h)(L:gg j g H (Z u))(r:b7 H J)(c:∀a Qp,aA b Q B j Qp->b7 u a->D a Qp):
  wpAny (aO b.prog b.w) O (lT (.ref g) J) D Qt h:=by
 rcases L with ⟨QG,n,d,f,x⟩|⟨QG,n,e,d,f,t,x⟩
 ·subst f;let@⟨z,hd,⟨@U,i,k⟩⟩:=oq G.a0 d;let⟨@a,m,p⟩:=j6.some_of (u:=u) (o:=nj U n) (by rw[x];exact i.val n);exact wpAny_getItem_of (sH r) k.mapOf m (c a _ (G.tok _) p)
 ·subst f;cases (show J=ae.ref e from r);let@⟨z,hd,⟨@w,i,k⟩⟩:=rg G.a0 d;let⟨@a,m,p⟩:=j6.some_of (u:=u) (o:=(k4 w n).map (·.2)) (by rw[x];exact i.val n);let⟨@q,v,y⟩:=cw.mp m;refine wpAny_getItem_heap (qE s) (l9 G.a0 t) k v ?_;rw[y];exact c a _ (G.tok _) p
def x4(m:O.units+20<bK)(G:aA b Q B j h)(L:gg j g H o)(k:b7 H J)(c:∀Qp,aA b Q B j Qp->D (.bool o.isSome) Qp):
  wpAny (aO b.prog b.w) O (dY .In J<|.ref g) D Qt h:=by
 rcases L with ⟨QG,n,d,a,x⟩|⟨QG,n,e,d,a,q,x⟩
 ·subst a;let@⟨z,hd,⟨@U,f,i⟩⟩:=oq G.a0 d;refine wpAny_in_of (sH k) hd i.mapOf ?_;rw[<-(f.val n).q1,<-x];exact c _ (G.tok _)
 ·subst a;cases (show J=ae.ref e from k);let@⟨z,hd,⟨@w,f,i⟩⟩:=rg G.a0 d;refine wpAny_in_heap (qE m) (l9 G.a0 q) hd i ?_;have p:=(f.val n).q1;rw[tN]at p;rw[<-p,<-x];exact c _ (G.tok _)
def vZ(m:O.units+20<bK)(G:aA b Q B j h)(L:gg j g H o)(k:b7 H J)(c:∀Qp,aA b Q B j Qp->D (.bool<|!o.isSome) Qp):
  wpAny (aO b.prog b.w) O (dY .NotIn J<|.ref g) D Qt h:=by
 rcases L with ⟨QG,n,d,a,x⟩|⟨QG,n,e,d,a,q,x⟩
 ·subst a;let@⟨z,hd,⟨@U,f,i⟩⟩:=oq G.a0 d;refine wpAny_notIn_of (sH k) hd i.mapOf ?_;rw[<-(f.val n).q1,<-x];exact c _ (G.tok _)
 ·subst a;cases (show J=ae.ref e from k);let@⟨z,hd,⟨@w,f,i⟩⟩:=rg G.a0 d;refine wpAny_notIn_heap (qE m) (l9 G.a0 q) hd i ?_;have p:=(f.val n).q1;rw[tN]at p;rw[<-p,<-x];exact c _ (G.tok _)
def wc{a:fY}(G:aA b Q B j h)(c:qh (j g))(Qx:aV.SameBut g h.heap T)(i:∃p,T.get? g=Z p)(new:eK b.prog b.w (upd j g a) T g a):
  aA b Q B (upd j g a) {h with heap:=T,toks:=QZ}:=
 G.write (f:=g) (d:=g) c (.inl rfl) (λe p k m=>(Qx.2 e k).trans m) i new
def Ng{QG:List (d_×af)}{U:List (d_×ae)}(a:QG.length<=sizeLine)(b:(g==iV)=aq)(c:fp QG U)(d:T.DictOf (lP Qr l) g U):
  eK Qr l F T g (.dn QG):=⟨a,b,U,c,d⟩
def CF{D:Unit->ah->Prop}(M:O.units+20<bK)(G:aA b Q B j h)(L:mB j g H u F)(z:b7 H J)(A:b7 u s)(c:∀Qp,aA b Q B F Qp->D () Qp):
  wpAny (aO b.prog b.w) O (sm (.ref g) J s) D Qt h:=by
 rcases L with ⟨QG,n,d,o,x,q⟩|⟨QG,n,e,d,o,C,x,q⟩
 ·subst o q;let@⟨a,r,⟨@U,f,t⟩⟩:=MC G.a0 d;have v:U.length<=sizeLine:=by rw[<-f.length];exact a
  have y:(gR QG n u).length<=sizeLine:=by have:=A4 QG n u;lia
  refine wpAny_setItem_pairs (hsz:=v) (sH z) t λT i Qx=>c _ ?_;have P:∃p,T.get? g=Z p:=let ⟨p,_,_,k,_⟩:=i;⟨p,k⟩
  exact wc G (by rw[d];exact True.intro) Qx P (Ng y r (f.put n A) i)
 ·subst o q;cases (show J=ae.ref e from z);let@⟨a,r,⟨@w,f,t⟩⟩:=yO G.a0 d;have v:w.length<=sizeLine:=by rw[<-d0.length f];exact a
  have y:(gR QG n u).length<=sizeLine:=by have:=A4 QG n u;lia
  refine wpAny_setItem_heap (hsz:=v) (qE M) (l9 G.a0 C) t λT i Qx=>c _ ?_;let⟨p,Qs,@Rc,k,E,R,S,W,al⟩:=i;refine wc G (by rw[d];exact True.intro) Qx ⟨p,k⟩ ⟨y,r,_,(f.put n C A).keeps λm QJ I=>?_,p,Qs,Rc,k,E,R,S,al⟩;rw[cU (zy I d<|λa=>nomatch a)];exact I
end
section
variable{b:aJ}{Q:List (ak×a3)}{B:aW}{j:aw}{h:ah}{g:ak}{QG:List (d_×af)}{n:d_}{J:ae}{O:bl}{Qt:ae->ah->Prop}
def LR(G:aA b Q B j h)(d:jK j g (.dn QG))(c:∀A Qp,aA b Q B j Qp->D (.int QG.length A) Qp):wpAny (aO b.prog b.w) O (call (.builtin "len") [.ref g]) D Qt h:=by
 let@⟨z,hd,⟨@U,a,e⟩⟩:=oq G.a0 d;refine call_len_dict hd e (by rw[<-a.length];rw[wO]at z;lia) ?_;rw[<-a.length];exact c _ _ (G.tok _)
end
def O2{b:aJ}{g:ak}{H:af}(G:aA b Q B j h)(L:gg j g H o):h.TypeIs (.ref g) "dict" := by
 rcases L with ⟨QG,n,d,_,_⟩|⟨QG,n,e,d,_,_,_⟩
 ·let@⟨_,_,⟨@U,_,a⟩⟩:=oq G.a0 d;exact a.typeIs
 ·let@⟨_,_,⟨@w,_,a⟩⟩:=rg G.a0 d;exact a.typeIs
def Nq(c:aV)(a:iV<c.objs.size):eK Qr l j (c.push {cls:=.type "dict",data:=.dict #[]}) c.objs.size (.aH []):=
 ⟨fo _,uQ.mpr<|fP<|c1 a,[],.nil,_,#[],0,c_ _ rfl,⟨rfl,rfl,rfl⟩,rfl,rfl,gY⟩
end L2
namespace Dq
open PySem.W PySem.Calls PyProof.Rows
variable{r:Nat}{x:OpenLaw}
def MR{Qr:s_}{c:aV}:∀(QM:List Int) (U:List ae),WellAll Qr c U (QM.map pW.int)->q9 U QM:=by
 intro QM;induction QM with
 |nil=>
  intro U l;rw[List.map_nil]at l;cases l;exact .nil
 |cons r QM a=>
  intro U l;rw[cH]at l;cases l with
  |cons g e=>
   cases g;exact .cons _ _ (a _ e)
def Ky(h:x.most=Z r){Qr:s_}{c:aV}{args:List pW}{d:List ae}(e:x.row.toRowW.claim.pre args=X)(i:WellAll Qr c d args):
  ∃g U QM,d=[ae.ref g]/\args=[pW.list (QM.map pW.int)]/\c.get? g=Z {cls:=.type "list",data:=.seq U.toArray}/\q9 U QM/\QM.length<=r:=by
 have j:qO.hasAll [] args [.list .int]=X:=(pre_splitW e).1;have f:x.pre.holds [] {args:=args}=X:=(pre_splitW e).2;let⟨v,@s,rfl,t,E⟩:=hasAllW_cons j;obtain rfl:=hasAllW_nil E;let⟨@w,rfl,k⟩:=hasW_list t;let⟨@QM,rfl⟩:=items_int k;have l:QM.length<=r:=by
  unfold OpenLaw.pre at f;have a:(WTm.not<|.lt (.lit<|.int (r:Int))<|.len<|.arg 0).holds [] {args:=[.list (QM.map .int)]}=X:=by
   have a:=(holds_andW f).1;rw[h]at a;exact a
  have b:=condW_of a (w_not<|w_lt w_lit<|w_len_list<|w_arg rfl);rw[bj]at b;refine Nat.le_of_not_lt λp=>?_;have m:(r:Int)<((QM.length:Nat):Int):=⋯
  first
   | (rw[dd m]at b;exact absurd b ∅)
   | (simp at b;lia)
 cases i with
 |cons n o=>
  cases o;cases n with
  |list q u=>exact⟨_,_,QM,rfl,rfl,q,MR QM _ u,l⟩
def Oz(x:OpenLaw)(args:List pW):x.row.toRowW.claim.post args (.bool X) args=X:=
 postW_of (r:=x.row.toRowW) (X:=(X==X))
  (show qO.has [] (.bool X) .bool=X by first|rfl|decide|simp[qO.has,qO.arms,qO.armsAll])
  (show (WTm.eq .res<|.lit<|.bool X).value [] {args:=args,res:=Z (.bool X),after:=args}=Z (.bool<|X==X) from w_eq_bool (w_res rfl) w_lit) rfl
def MU{p:bz}{d:List aB}{e:(aB->Option ae)->aV->Prop}{f:bc->aV->Prop}{v:DefRec}(j:x.most=Z r)(k:v.params.defaults=[])(call:∀(l:bc) (eF a:ah) (aI c:aB->Option ae) (ed:ak) (o:a3) (T b i:ae) (g:ak) (U:List ae) (QM:List Int),
   Ground p d [] e l eF aI c a.heap->f l a.heap->
   a.heap.get? ed=Z o->o.data=.func (docDef v.name v.params v.body v.scope T b i)->a.heap.CodeRec b v.name->aI v.name=Z (.ref ed)->
   a.heap.get? g=Z {cls:=.type "list",data:=.seq U.toArray}->q9 U QM->QM.length<=r->a.gens=#[]->
   codeAny (aO x.prog l) mN (.call (.ref ed) ⟨[.ref g],[]⟩) (λs Qp=>s=.ok (.ret<|.bool X)/\OldK a.heap Qp.heap/\Qp.os=a.os/\kC Qp.gens) a):
  WalkO p d e f x.row.toRowW v [] (λC U=>PySem.call C U):=by
 intro l eF a aI c QE m ed o T b i n b0 q t u h w y args L N z O P A Q;obtain rfl:n=.none:=Dflts.none h k;obtain rfl:b0=.none:=Dflts.noKw h;let⟨g,U,@QM,rfl,rfl,B,D,F⟩:=Ky j z A;refine enter_call (q0 (call l eF a aI c ed o T b i g U QM QE m q (fd_plain t) u w B D F y) λs Qp G=>?_);let@⟨rfl,E,H,I⟩:=G;exact⟨.inl ⟨.bool X,.bool X,[],rfl,λ_=>rfl,.bool X,Oz x _,λ_=>⟨List.Pairwise.nil,λ_ J=>(nomatch J)⟩⟩,E,H,I⟩
end Dq
namespace L2
open Spec PyProof.Rows
variable{QF:List aB}{C:ak}{N:cF}{Rm f:aB}{fd:gj}{n:Nat}
theorem zq:∀{U:List ae}{QM:List Int},q9 U QM->bM (QM.map af.int) U
 |_,_,.nil=>.nil
 |_,_,.cons r A c=>.cons ⟨A,rfl⟩ (zq c)
def sF(j:aw):Prop:=(∀e,j e=Y\/∃o w,j e=Z (.dP o<|.lst w))
def IB{Qr:bz}{l:bc}{Qw:Φ}{aI y:aB->Option ae}{z:kd}{ed g:ak}{Ru:cG}{a:ah}{U:List ae}{QM:List Int}(C:Qw.In a.heap)(D:a.heap.Ns dq aI)(i:a.heap.Ns xO y)(T:∀f:aB,f ≠ "__name__" -> y f=ez f)(al:a.heap.NoLimit)(am:a.gens=#[])(q:a.heap.get? g=Z {cls:=.type "list",data:=.seq U.toArray})(S:q9 U QM)(G:QM.length<=sizeLine)(an:eD n mN)(P:∀QH:aV,Qw.In QH->QH.Ns dq aI->iz Qr l Qw aI QH z n ed fd [f] Ru)(ap:∀(h:ah) (J:ae),me h fd ⟨[J],[]⟩ [(f,J)])(as:∀j:aw,sF j->cT Qw j g (QM.map af.int)->Ru [.ref g] j (λu K=>u=.ax X) λ_ K K=>False)(a1:∀j d Qp,z [] j a (λ_ K K=>False) d Qp->False):
  codeAny (aO Qr l) mN (.call (.ref ed) ⟨[.ref g],[]⟩) (λs Qp=>s=.ok (.ret<|.bool X)/\OldK a.heap Qp.heap/\Qp.os=a.os/\kC Qp.gens) a:=by
 have H:=zq S;have a2:=S.length;have I:∀j:aw,sF j->cT Qw j g (QM.map af.int)->dQ Qr l j a.heap->(∀e,j e≠Y->e=g)->(j g≠Y->Qw.lookup g=Y)->
   codeAny (aO Qr l) mN (.call (.ref ed) ⟨[.ref g],[]⟩) (λs Qp=>s=.ok (.ret<|.bool X)/\OldK a.heap Qp.heap/\Qp.os=a.os/\kC Qp.gens) a:=by
  intro j L bd a0 N be;have O:∀{e:ak}{o:a3},a.heap.get? e=Z o->j e=Y->(kO a.heap j).get? e=Z o:=λd r=>Gl d r;have bi:∀{e:ak}{o:a3}{Qs:Array DictEntry}{Rc:Nat},a.heap.get? e=Z o->o.data=.dict Qs Rc->j e=Y:=λ{e o Qs Rc} d v=>by
   cases p:j e with
   |none=>rfl
   |some J=>
    have A:e=g:=N e (by rw[p];simp);subst A;rw[q]at d;cases d;have bm:Data.seq U.toArray _=Data.dict Qs Rc:=v;cases bm
  have x:∀{e:ak}{k:aB->Option ae},a.heap.Ns e k->(kO a.heap j).Ns e k:=λ{e k} ⟨o,Qs,Rc,d,v,s⟩=>⟨o,Qs,Rc,O d<|bi d v,v,s⟩;have Q:Qw.In (kO a.heap j):=λe o d=>O (C e o d) (by
   cases p:j e with
   |none=>rfl
   |some J=>
    have A:e=g:=N e (by rw[p];simp);subst A;rw[be (by rw[p];simp)]at d;cases d)
  have bn:Mod Qw aI (kO a.heap j):=⟨Q,x D,⟨y,x i,T⟩,let ⟨bs,t,E⟩:=al;⟨bs,x t,E⟩⟩;have bv:ug Qr l Qw aI (kO a.heap j) mN [] a j:=⟨rfl,bn,λe o d=>G0 d,Nat.le_of_eq<|L7 _ _,trivial,λe i=>absurd (show e∈([]:List ak) from i) ↥0,a0,.of_eq am⟩;refine q0 ((P _ Q<|x D).run mN [] a j ⟨[.ref g],[]⟩ [.ref g] [.ref g] _ _ an bv (ap a<|.ref g) (.cons rfl .nil)<|as j L bd) λs Qp c=>?_;cases s with
  |error d=>exact (a1 j d Qp c).elim
  |ok aR=>
   cases aR with
   |next=>exact False.elim c
   |brk=>exact False.elim c
   |cont=>exact False.elim c
   |ret J=>
    let⟨u,@F,M,ca,un,cd,Ra,p⟩:=c;have ce:u=.ax X:=p;subst ce;obtain rfl:J=ae.bool X:=Ra;refine⟨rfl,OldK.of_keep λe o d=>?_,M,ca⟩;cases p:j e with
    |none=>exact un.keep e o d p (by intro b;exact absurd (show e∈([]:List ak) from b) ↥0) ↥0
    |some J=>
     rcases L e with b|⟨ch,w,b⟩
     ·rw[p]at b;cases b
     ·have ci:=un.jf e ch _ b;let@⟨R,_⟩:=a0 e _ b;let@⟨cl,_⟩:=cd e _ ci;rw[d]at R;cases R;exact cl
 cases B:Qw.lookup g with
 |some o=>
  have d:=C g o B;rw[q]at d;cases d;refine I (λ_=>Y) (λ_=>.inl rfl) (.inr ⟨_,U.toArray,_,B,rfl,rfl,rfl,by rw[cB,a2];exact G,by simpa using H⟩) (λe J b=>by have m:(Y:Option fY)=Z J:=b;cases m) (λe b=>absurd rfl b) λb=>absurd rfl b
 |none=>
  refine I (λe=>if e=g then Z (.dP {cls:=.type "list",data:=.seq U.toArray} (.lst<|QM.map af.int)) else Y) (λe=>?_) (.inl<|.inr ⟨{cls:=.type "list",data:=.seq U.toArray},aE rfl⟩) (λe J b=>?_) (λe b=>?_) λ_=>B
  ·by_cases i:e=g
   ·exact .inr ⟨_,_,aE i⟩
   ·exact .inl (aK i)
  ·by_cases i:e=g
   ·have m:=(aE i).symm.trans b;cases m;subst i;exact⟨q,by rw[bj];exact G,U,_,H,q⟩
   ·have m:=(aK i).symm.trans b;cases m
  ·by_cases i:e=g
   ·exact i
   ·exact absurd (aK i) b
def Ot{x:PySem.W.OpenLaw}{r:Nat}{p:bz}{q:List aB}{s:(aB->Option ae)->aV->Prop}{a:bc->aV->Prop}{v:DefRec}{Qw:s_->Φ}{z:bc->kd}{Ru:bc->cG}(t:x.most=Z r)(w:r<=sizeLine)(y:v.params.defaults=[])(A:eD n mN)(B:∀(l:bc) (c:aV),a l c->(Qw l.params).In c)(P:∀(l:bc) (aI:aB->Option ae) (ed:ak) (c:aV),(Qw l.params).In c->c.Ns dq aI->aI v.name=Z (.ref ed)->
   ∃fd:gj,(∀(h:ah) (J:ae),me h fd ⟨[J],[]⟩ [(f,J)])/\
    ∀QH:aV,(Qw l.params).In QH->QH.Ns dq aI->iz x.prog l (Qw l.params) aI QH (z l) n ed fd [f] (Ru l))(D:∀(l:bc) (j:aw) (g:ak) (QM:List Int),QM.length<=r->sF j->cT (Qw l.params) j g (QM.map af.int)->Ru l [.ref g] j (λu L=>u=.ax X) λ_ L L=>False)(E:∀(l:bc) (j:aw) (h:ah) (d:ae) (Qp:ah),z l [] j h (λ_ L L=>False) d Qp->False):
  PySem.W.WalkO p q s a x.row.toRowW v [] (λC U=>PySem.call C U):=by
 refine Dq.MU t y λl eF F aI al ed o T am i g U QM QE G an ap as H I M k N=>?_;have m:=B l _ G;let⟨@fd,O,Q⟩:=P l aI ed _ m QE.T.g H;exact IB m QE.T.g QE.T.b QE.T.builtins QE.T.nolimit N I M (eG k w) A Q O (λj R S=>D l j g QM k R S) λj d Qp=>E l j F d Qp
def gW(h:cF):Arguments:=(match h with
 |.FunctionDef _ g _ _ _ _ _ _ _ _=>g
 |_=>{posonlyargs:=[],args:=[],vararg:=Y,kwonlyargs:=[],kw_defaults:=[],kwarg:=Y,defaults:=[]})
def fJ(h:cF):List cF:=(match h with
 |.FunctionDef _ _ e _ _ _ _ _ _ _=>e
 |_=>[])
def dB(h:cF):gn:=(match h with
 |.FunctionDef _ _ _ _ _ _ A _ _ _=>A
 |_=>{kind:=.function,names:=[],isGenerator:=aq,isCoroutine:=aq})
abbrev hT:kd:=λ_ _ _ _ _ _=>False
abbrev MN:gs:=λ_ _ _=>False
def K6{b:aJ}:xR hT b MN:=λ_ W W W W W W c=>c.elim
structure fT(Qw:Φ)(f Rm:aB)(N:cF)(C:ak)(fd:gj):Prop where
 ex:∃(E:ae) (t:Option ak) (b0 i T:ae) (y:Option ak) (R bW:ae) (I:Array (Option ae)),
  fd=Ξ f Rm (gW N) (fJ N) (dB N) .none b0 i T y R bW/\Qw.lookup C=Z ⟨E,t,.func fd,I⟩/\Δ Qw R Rm=X
 da:Θ Qw (.ref C)=X
section
variable{Qr:bz}{l:bc}{Qw:Φ}{aI:aB->Option ae}{QH:aV}
def fT.ok{Q2:List aB}{Ru:cG}(P:fT Qw f Rm N C fd)(QI:mI Q2 QF (dB N))(len:∀U j D Qt,Ru U j D Qt->U.length=QF.length)(a:∀(R:ae) (O:bl) (Rg:List eA) (h:ah) (j:aw) (U:List af) (D:cz) (Qt:gs),eD n (O.deeper<|iB Rm (dB N) h.heap.objs.size C R)->Ru U j D Qt->
   ∃A,hk (kN hT Qr l Qw aI QH Q2 Rm (dB N) C R O Rg h j Qt).m1 (fJ N) A/\A {bg:=λ_ F=>D .aT F,et:=D} (start Q2 U) j):iz Qr l Qw aI QH hT (n+1) C fd QF Ru:=by
 let⟨E,t,b0,i,T,y,R,bW,@I,rfl,lk,b⟩:=P.ex;refine Hm lk b QI len λO Rg h j U D Qt d e=>?_;let⟨@A,c,p⟩:=a R O Rg h j U D Qt d e;exact⟨A,c.m1,p⟩
def fT.binds(P:fT Qw f Rm N C fd)(c:∀(b0 i T:ae) (y:Option ak) (R bW:ae) (QR:List ae),QR.length=QF.length->i0 (Ξ f Rm (gW N) (fJ N) (dB N) .none b0 i T y R bW) ⟨QR,[]⟩=pure (QF.zip QR)):ik Qw fd QF []:=by
 let⟨E,t,b0,i,T,y,R,bW,@I,rfl,lk,a⟩:=P.ex;exact .all (c b0 i T y R bW)
def NG{E:ae}{t y:Option ak}{I:Array (Option ae)}{b0 i T R bW:ae}(x:Qw.lookup C=Z ⟨E,t,.func<|Ξ f Rm (gW N) (fJ N) (dB N) .none b0 i T y R bW,I⟩)(m:Δ Qw R Rm=X)(n:Θ Qw (.ref C)=X):fT Qw f Rm N C (Ξ f Rm (gW N) (fJ N) (dB N) .none b0 i T y R bW):=⟨⟨E,t,b0,i,T,y,R,bW,I,rfl,x,m⟩,n⟩
end
section
variable{b:aJ}
def ef(a:Nat){f:aB}{QK:Pos}(c:b.N[a]?=Z f:=by rfl)(d:t_ b.env.scope f:=by first|exact Or.inl rfl|exact Or.inr (Or.inl rfl)|exact Or.inr (Or.inr rfl))(e:(f==("__debug__" : aB))=aq:=by decide)(g:(f==("__classdict__" : aB))=aq:=by decide):bN b (.Name f QK) (ni a):=y2 c d e g
end
def cQ(j F:aw):Prop:=(∀e o,j e=Z o->F e=Z o)
def cQ.refl(j:aw):cQ j j:=λ_ W c=>c
end L2
namespace L2
section
variable{b:aJ}
def OE:ep b (.builtin "len") (λw j D=>∃g QG,w=[af.ref g]/\j g=Z (.dn QG)/\D (.int QG.length) j):=by
 intro Q h B j w QR D G s c;let⟨g,@QG,rfl,a,p⟩:=c;let⟨@J,rfl,d⟩:=hF s;cases d;exact LR G (.inl a) λA Qp e=>⟨.int QG.length,j,e,⟨A,rfl⟩,p⟩
end
end L2
namespace L2
open Spec PyProof.Rows
variable{D:Option ae->ah->Prop}{a Rc:Nat}{c:aV}{QC:List ae}{v aL:ak}{eT:cW}{QY Rl Rw:bk}{bY:List ak}{j:aw}{B:aW}{Q:List (ak×a3)}{QW:List Nat}{own:List aB}{Qv:eA}{QK:Pos}{QS:gn}{Rv:List bk}{h:ah}
def N4{Qy:bz}{l:bc}{O:bl}{Qu:oL->ah->Prop}{b:bk}{it e:ae}(G:Nat->ah->Prop)(p:∀r h,G r h->wpAny (aO Qy l) O (gC it) (λs a=>match s with
   |none=>Qu (.ok .next) a
   |some u=>wpAny (aO Qy l) O (qu b it u) (λ_ a=>wpAny (aO Qy l) O (hC b Qv u) (λ_ i=>
     wpAny (aO Qy l) O (forIn Rv X λm s=>if s=X then do let ok <-oD m Qv (b8 m Qv);pure (ForInStep.yield ok) else pure (ForInStep.yield s)) (λok g=>
      if ok=X then wpAny (aO Qy l) O (b8 Rw Qv) (λf j=>
       wpAny (aO Qy l) O (call (.builtin "list.append") [e,f]) (λ_ n=>∃k,k<r/\G k n) (λ_ W=>False) j) (λ_ W=>False) g
      else ∃k,k<r/\G k g) (λ_ W=>False) i) (λ_ W=>False) a) (λ_ W=>False) a) (λ_ W=>False) h)(r:Nat)(c:G r h):
  codeAny (aO Qy l) O (.compLoop (.ListComp Rw [⟨b,Rl,Rv,0⟩] QS QK) 0 it e Qv) Qu h:=by
 refine codeAny_loop rfl G (λr h q=>?_) r c;show wpAny _ O ((compTurn (.ListComp Rw [⟨b,Rl,Rv,0⟩] QS QK) 0 it e Qv).onRaise (λf=>do noteFrame f Qv;theTreesLotGoes f)) _ _ h;refine wpAny_noted ?_;rw[compTurn_list];refine av (sU<|av<|gQ (p r h q) (λs a d=>?_) λ_ W T=>T.elim);cases s with
 |none=>exact aS d
 |some u=>
  refine av (gQ d (λ_ a d=>?_) λ_ W T=>T.elim);refine av (gQ d (λ_ i t=>av<|gQ t (λok g o=>?_) λ_ W T=>T.elim) λ_ W T=>T.elim);cases ok with
  |false=>exact aS ⟨rfl,o⟩
  |true=>
   exact av (av<|gQ o (λf j v=>av<|gQ v (λ_ n w=>aS<|aS ⟨rfl,w⟩) λ_ W T=>T.elim) λ_ W T=>T.elim)
def m9(Qv:eA)(a:List (aB×dh)):List (aB×ak):=(a.foldl (λR H=>if H.2==.free then (H.1,(Qv.cells.lookup H.1).getD 0)::R else R) [])
theorem xo{Qv:eA}:∀(a:List (aB×dh)) (R:List (aB×ak)),(∀H∈a,H.2=.free->∃m,Qv.cells.lookup H.1=Z m)->
  (forIn a R λ(H:aB×dh) R=>if H.2==.free then (do let m <-uf Qv H.1;pure (ForInStep.yield ((H.1,m)::R))) else pure (ForInStep.yield R):dD _)=
   pure (a.foldl (λR H=>if H.2==.free then (H.1,(Qv.cells.lookup H.1).getD 0)::R else R) R)
 |[],R,_=>rfl
 |H::s,R,c=>by
  rw[sj,lb];by_cases b:H.2=.free
  ·let⟨@m,g⟩:=c H k1 b;have d:(H.2==dh.free)=X:=by simp[b]
   rw[aE d,aE d];have h:uf Qv H.1=pure m:=by unfold uf;rw[g]
   rw[h,g];show (forIn s ((H.1,m)::R) _:dD _)=_;exact xo s _ λe f=>c e (jX _ f)
  ·have d:¬ (H.2==dh.free)=X:=by simp[b]
   rw[aK d,aK d];show (forIn s R _:dD _)=_;exact xo s _ λe f=>c e (jX _ f)
def GH(c:∀H∈QS.names,H.2=.free->∃m,Qv.cells.lookup H.1=Z m):closureFor QS Qv=pure (m9 Qv QS.names):=by
 have:=xo (Qv:=Qv) QS.names [] c;unfold closureFor;dsimp only;have d:(forIn QS.names ([]:List (aB×ak))<|λ(f:aB×dh) (s:List (aB×ak))=>(if f.2==.free then (do let m <-uf Qv f.1;pure (ForInStep.yield ((f.1,m)::s))) else pure (ForInStep.yield s):dD (ForInStep<|List<|aB×ak)))=pure (m9 Qv QS.names):=this;rw[d];rfl
theorem Bq{Qv:eA}:∀(b:List (aB×dh)) (R:List (aB×ak)) (f:aB) (m:ak),
  (b.foldl (λR H=>if H.2==.free then (H.1,(Qv.cells.lookup H.1).getD 0)::R else R) R).lookup f=Z m->
  (m=(Qv.cells.lookup f).getD 0/\(f,dh.free)∈b)\/R.lookup f=Z m
 |[],R,f,m,c=>.inr c
 |H::s,R,f,m,c=>by
  rw[lb]at c;rcases Bq s _ f m c with ⟨d,k⟩|c
  ·exact .inl ⟨d,jX _ k⟩
  ·by_cases a:H.2=.free
   ·rw[aE (by simp[a])]at c;rw[h7]at c;by_cases e:f=H.1
    ·subst e;rw[kT]at c;refine .inl ⟨(Option.some.inj c).symm,?_⟩;rw[<-a];exact k1
    ·have:(f==H.1)=aq:=by simpa using e
     rw[this]at c;exact .inr c
   ·rw[aK (by simp[a])]at c;exact .inr c
theorem yj{Qv:eA}:∀(a:List (aB×dh)) (R:List (aB×ak)) (f:aB),(f,dh.free)∈a\/(∃m,R.lookup f=Z m)->
  ∃m,(a.foldl (λR H=>if H.2==.free then (H.1,(Qv.cells.lookup H.1).getD 0)::R else R) R).lookup f=Z m
 |[],R,f,c=>by
  rcases c with c|c
  ·cases c
  ·exact c
 |H::s,R,f,c=>by
  rw[lb];apply yj s _ f;rcases c with c|⟨m,c⟩
  ·rcases cu.mp c with d|c
   ·right;subst d;rw[aE (by rfl),h7,kT];exact⟨_,rfl⟩
   ·exact .inl c
  ·right;by_cases b:(H.2==dh.free)=X
   ·rw[aE b,h7];cases f==H.1
    ·exact⟨m,c⟩
    ·exact⟨_,rfl⟩
   ·rw[aK b];exact⟨m,c⟩
structure jc where
 aL:ak
 s:ah
 H:aw
 bY:List ak
variable{Rq:jc->b2}{I:jc->dZ}{L:jc->fV}
def aJ.fx(b:aJ)(c:List aB)(QS:gn)(a:jc): aJ :=(
  {prog:=b.prog,w:=b.w,K:=b.K,aI:=b.aI,base:=b.base,A:=b.A,N:=c,eF:=a.s,o7:=a.H,env:=tU QS (m9 b.env QS.names) a.aL b.env,outer:=b.stack,stack:=b.stack,
    ex:=a.bY,fn:=λ_ => aq,calm:=b.calm,jP:=[],cE:=λ_ W => False})
theorem w6{Qv:eA}:∀{g:List (aB×dh)}{f:aB}{n:dh},
  (g.map λ(r,n)=>if (n==dh.free&&Qv.scope.kind==.function&&Qv.kindOf r==Z .cell) then (r,dh.cell) else (r,n)).lookup f=Z n->
  (n=.cell\/n=.free)->(∀H∈g,H.2≠.cell)->(f,dh.free)∈g
 |[],f,n,c,_,_=>by simp at c
 | (r,e)::s,f,n,c,a,h=>by
  rw[cH]at c;dsimp only at c;by_cases i:f=r
  ·subst i;by_cases b:(e==dh.free&&Qv.scope.kind==.function&&Qv.kindOf f==Z .cell)=X
   ·have:e=dh.free:=by
     simp only[cI]at b;exact by simpa using b.1.1
    subst this;exact k1
   ·simp only[b]at c;have d:e=n:=by simpa [h7] using c
    subst d;rcases a with a|a
    ·exact absurd a (h (f,e) k1)
    ·rw[a];exact k1
  ·have j:(f==r)=aq:=by simpa using i
   have T:(s.map λ(r,n)=>if (n==dh.free&&Qv.scope.kind==.function&&Qv.kindOf r==Z .cell) then (r,dh.cell) else (r,n)).lookup f=Z n:=by
    by_cases b:(e==dh.free&&Qv.scope.kind==.function&&Qv.kindOf r==Z .cell)=X
    ·rw[aE b,h7,j]at c;exact c
    ·rw[aK b,h7,j]at c;exact c
   exact jX _ (w6 T a λH k=>h H<|jX _ k)
section
variable{b:aJ}
structure iG(b:aJ)(QS:gn)(own:List aB)(QW:List Nat):Prop where
 kind:QS.kind=.function
 cell:∀H∈QS.names,H.2≠.cell
 free:∀H∈QS.names,H.2=.free->b.env.scope.names.lookup H.1=Z .cell
 loc:∀H∈QS.names,H.2=.local->QS.names.lookup H.1=Z .local
 Po:∀a∈QW,∃f,b.N[a]?=Z f/\(f,dh.free)∈QS.names/\QS.names.lookup f=Z .free
def fF(b:aJ)(own:List aB)(QW:List Nat):List aB:=(own++QW.map λa=>b.N.getD a "")
def jn(own:List aB)(QW:List Nat)(B:aW):aW:=(own.map (λ_=>Y)++QW.map λa=>B.getD a Y)
def iG.cells(QI:iG b QS own QW)(ok:b.Ok):∀H∈QS.names,H.2=.free->∃m,b.env.cells.lookup H.1=Z m:=
 λH a c=>ok.has H.1 (.inl<|QI.free H a c)
def iG.sub(QI:iG b QS own QW)(ok:b.Ok){f:aB}{m:ak}(c:(m9 b.env QS.names).lookup f=Z m):b.env.cells.lookup f=Z m/\(f,dh.free)∈QS.names:=by
 rcases Bq QS.names [] f m c with ⟨d,k⟩|c
 ·let⟨@e,a⟩:=QI.cells ok (f,.free) k rfl;rw[show (List.lookup f b.env.cells)=Z e from a]at d;refine⟨?_,k⟩;rw[d];exact a
 ·simp at c
theorem EL(QI:iG b QS own QW)(G:aA b Q B j h)(l:h.heap.objs.size<=aL)(i:∀e∈bY,ja b Q j e)(n:∀e∈bY,e<h.heap.objs.size):(b.fx (fF b own QW) QS ⟨aL,h,j,bY⟩).Ok where
 mod:=G.ok.mod
 kind:=QI.kind
 glob:=G.ok.glob
 blt:=G.ok.blt
 above:=l
 inj:=λf H m t E=>G.ok.inj f H m (QI.sub G.ok t).1 (QI.sub G.ok E).1
 has:=λf g=>by
  have k:(f,dh.free)∈QS.names:=by
   rcases g with g|g
   ·exact w6 g (.inl rfl) QI.cell
   ·exact w6 g (.inr rfl) QI.cell
  exact yj QS.names [] f (.inl k)
 n7:=λf m c W=>nomatch c
 hd:=G.ok.hd
 frames:=G.ok.frames
 rl:=.inl rfl
 vL:=λe a=>⟨c1<|e5 (n e a) l,λf m c=>(i e a).2.2.2.2.1 f m (QI.sub G.ok c).1⟩
 bs:=G.bs
 kk:=eG G.ok.kk G.iI
 o6:=λe o d a=>by
  rcases (i e a).2.2.2.1 with z|z
  ·exact G.ok.o6 e o d z
  ·exact absurd (e5 (b1 d)<|eG G.ok.kk z) (jU _)
 o1:=λe a z=>by
  rcases cu.mp (G.wX e z) with d|d
  ·exact (i e a).2.1 d
  ·exact (i e a).2.2.1 d
 iv:=G.stack
 mn:=G.BJ
theorem PD{t:aV}{Q1:Nat}{k:aB->Option ae}(QI:iG b QS own QW)(G:aA b Q B j h)(D:h.heap.objs.size<=aL)(T:∀e∈bY,ja b Q j e)(U:∀e∈bY,e<h.heap.objs.size)(x:∀e o,h.heap.get? e=Z o->t.get? e=Z o)(al:t.Ns aL k):
  aA (b.fx (fF b own QW) QS ⟨aL,h,j,bY⟩) [] (jn own QW B) j {h with heap:=t,toks:=Q1} where
 ok:=EL QI G D T U
 os:=rfl
 bare:=G.bare
 base:=eX.kept x
 loc:=by
  let⟨@be,bi,am⟩:=G.loc;refine⟨k,al,λi f u g d v=>?_⟩;have g:(own++QW.map λa=>b.N.getD a "")[i]?=Z f:=g;have d:(own.map (λ_=>(Y:Option af))++QW.map λa=>B.getD a Y)[i]?=Z (Z u):=d;by_cases an:i<own.length
  ·rw[iA (by rw[bj];exact an),eH]at d;cases p:own[i]? with
   |none=>rw[p]at d;cases d
   |some E=>rw[p]at d;cases d
  ·rw[jw ⋯,eH]at g;rw[jw (by rw[bj];lia),eH,bj]at d;cases p:QW[i-own.length]? with
   |none=>rw[p]at g;cases g
   |some a=>
    rw[p]at g d;have g:b.N.getD a "" = f:=Option.some.inj g;have d:B.getD a Y=Z u:=Option.some.inj d;let⟨@l,F,I,ap⟩:=QI.Po a (fe p);have Rh:l=f:=by
     rw[<-g,cx,F];rfl
    subst Rh;have Qx:B[a]?=Z (Z u):=by
     rw[cx]at d;cases L:B[a]? with
     |none=>rw[L]at d;cases d
     |some E=>rw[L]at d;rw[show E=Z u from d]
    have O:=QI.free (l,.free) I rfl;let⟨@J,s,lk⟩:=am a l u F Qx (.inr<|.inl O);refine⟨J,s,.inr ⟨?_,?_⟩⟩
    ·rcases v with v|v|v
     ·
      exfalso;have:∀{y:List (aB×dh)},y.lookup l=Z .free->(y.map λ(r,n)=>if (n==dh.free&&b.env.scope.kind==.function&&b.env.kindOf r==Z .cell) then (r,dh.cell) else (r,n)).lookup l≠Z .local:=by
       intro y;induction y with
       |nil=>intro c;simp at c
       |cons H s P=>
        let⟨r,n⟩:=H;intro c;rw[cH];dsimp only;by_cases R:l=r
        ·subst R;have RD:n=.free:=by simpa [h7] using c
         subst RD;by_cases w:(dh.free==dh.free&&b.env.scope.kind==ScopeKind.function&&b.env.kindOf l==Z dh.cell)=X
         ·rw[aE w];simp[h7]
         ·rw[aK w];simp[h7]
        ·have z:(l==r)=aq:=by simpa using R
         rw[h7,z]at c;by_cases w:(n==dh.free&&b.env.scope.kind==ScopeKind.function&&b.env.kindOf r==Z dh.cell)=X
         ·rw[aE w,h7,z];exact P c
         ·rw[aK w,h7,z];exact P c
      exact this ap v
     ·exact .inl v
     ·exact .inr v
    ·rcases lk with ⟨as,_⟩|⟨_,m,a1,a2⟩
     ·exact absurd (as.symm.trans O) ↥0
     ·let⟨@bm,S⟩:=yj (Qv:=b.env) QS.names [] l (.inl I);have:=(QI.sub G.ok S).1;rw[a1]at this;cases this;let⟨@o,A,C⟩:=a2;exact⟨m,S,o,x _ _ A,C⟩
 cell:=λf m c=>by
  let⟨u,@o,A,C⟩:=G.cell f m (QI.sub G.ok c).1;exact⟨u,o,x _ _ A,C⟩
 free:=G.a0.fresh D
 i6:=λf m c=>G.i6 f m (QI.sub G.ok c).1
 pin:=λq bd=>nomatch bd
 a0:=G.a0.kept x
 len:=by simp[jn,fF,aJ.fx]
def zx(b:aJ)(Rv:List bk)(A:dZ)(Q:List (ak×a3)):Prop:=(
 ∀(h:ah) (B:aW) (j:aw) (D:Bool->aw->Prop),aA b Q B j h->A B j D->
  wpAny (aO b.prog b.w) b.A (forIn Rv X λm s=>if s=X then do let ok <-oD m b.env (b8 m b.env);pure (ForInStep.yield ok) else pure (ForInStep.yield s)) (tr b Q B D) b.cE h)
def ra(b:aJ)(Rv:List bk)(A:dZ):Prop:=(∀Q,zx b Rv A Q)
def HZ:dZ:=(λ_ j D=>D X j)
def Ga:ra b [] HZ:=λQ h B j D G c=>wpAny_tests_nil ⟨j,G,c⟩
def Pc{m:bk}{A:dZ}(c:gK b m A):ra b [m] A:=λQ h B j D G a=>wpAny_tests_one (c Q h B j D G a)
def It(own:List aB)(QW:List Nat)(L:fV)(I:dZ)(Rq:b2)(B:aW)(Q2:List af->aw->Prop)(QJ:List af)(f:af)(F:aw):Prop:=(
 L f (jn own QW B) F λa QN=>(∀(i:Nat) (u:af),(jn own QW B)[i]?=Z (Z u)->a[i]?=Z (Z u))/\I a QN λe b=>if e=X then Rq a b λu c=>QJ.length<sizeLine/\Q2 (QJ++[u]) c else Q2 QJ b)
def OC(Rn:eP)(own:List aB)(QW:List Nat)(L:fV)(I:dZ)(Rq:b2)(B:aW)(QB:aw)(D:cz):Prop:=(
 ∃W:Nat->Nat->List af->aw->Prop,(∃k,W 0 k [] QB)/\∀a k QJ j,W a k QJ j->(Rn.stop a j/\∀y,j y=Y->D (.ref y) (upd j y<|.lst QJ))\/
  (Rn.go a j/\∃Q2:List af->aw->Prop,(∀b F,Q2 b F->∃c,c<k/\W (a+1) c b F)/\∀f F,Rn.qH a j f F->It own QW L I Rq B Q2 QJ f F))
def uq(own:List aB)(QW:List Nat)(eT:cW)(L:jc->fV)(I:jc->dZ)(Rq:jc->b2):b2:=(λB j D=>eT B j λRn QB=>∀a:jc,OC Rn own QW (L a) (I a) (Rq a) B QB D)
def vq(A:gn)(Q2:List aB)(QS:gn)(QW:List Nat):Bool:=(
 QS.kind==.function&&QS.names.all (λH=>H.2 != .cell)&&QS.names.all (λH=>H.2 != .free || A.names.lookup H.1==Z .cell)&&QS.names.all (λH=>H.2 != .local || QS.names.lookup H.1==Z .local) &&
  QW.all (λa=>match Q2[a]? with|some f=>QS.names.lookup f==Z .free|none=>aq))
theorem mem_of_lookup:∀{x:List (aB×dh)}{f:aB}{n:dh},x.lookup f=Z n->(f,n)∈x
 |[],_,_,c=>by simp at c
 | (r,b)::s,f,n,c=>by
  rw[h7]at c;by_cases a:f=r
  ·subst a;rw[kT]at c;cases c;exact k1
  ·rw[show (f==r)=aq by simpa using a]at c;exact jX _ (mem_of_lookup c)
def mi{b:aJ}(A:gn)(Q2:List aB)(c:vq A Q2 QS QW=X)(d:b.env.scope=A:=by rfl)(j:b.N=Q2:=by rfl):iG b QS own QW:=by
 unfold vq at c;simp only[cI,iC,bne_iff_ne,ne_eq,xb,p4]at c;let@⟨@⟨@⟨@⟨t,E⟩,k⟩,l⟩,m⟩:=c;refine⟨t,E,λH e g=>?_,λH e g=>?_,λa S=>?_⟩
 ·rw[d];exact (k H e).resolve_left λh=>h g
 ·exact (l H e).resolve_left λh=>h g
 ·have:=m a S;rw[j];cases p:Q2[a]? with
  |none=>rw[p]at this;cases this
  |some f=>
   rw[p]at this;have i:QS.names.lookup f=Z .free:=by simpa using this
   exact⟨f,rfl,mem_of_lookup i,i⟩
def CL{Rf:Pos}{use:Option (ae->dD Unit)}{f2:ae->ah->Prop}{lf:cz}(o0:b.calm=X)(QI:iG b QS own QW)(S:jM b QY Rl eT)(pc:∀ap,iD (b.fx (fF b own QW) QS ap) QY<|L ap)(bf:∀ap,ra (b.fx (fF b own QW) QS ap) Rv<|I ap)(pi:∀ap,bN (b.fx (fF b own QW) QS ap) Rw<|Rq ap)(Qx:∀f,k8 Rl b.env f=pure f)(G:aA b Q B j h)(c:uq own QW eT L I Rq B j lf)(pm:∀(y aL:ak) (f4:aw) (N:ah) (k:aB->Option ae),aA b Q B f4 N->N.heap.Ns aL k->f4 aL=Y->b.env.locals≠aL->(∀f m,b.env.cells.lookup f=Z m->m≠aL)->b.eF.heap.objs.size<=aL->(∀q∈b.jP++Q,q.1≠aL)->lf (.ref y) f4->compPost (aO b.prog b.w) b.A b.cE use f2 (.ref y) aL (.ok .next) N):
  wpAny (aO b.prog b.w) b.A (xj (.ListComp Rw [⟨QY,Rl,Rv,0⟩] QS QK) QS b.env Rf (rv []) aq (b8 Rl b.env) use) f2 b.cE h:=by
 refine wpAny_comprehension_free (use:=use) rfl Qx (GH<|QI.cells G.ok) QI.kind QI.loc (bU (S Q h B j _ G c) λu v6 t=>bU t λwf C E=>?_);let⟨it,bY,i,Rn,@QN,d,am,Qq,f8,as,po⟩:=E;subst d;have db:∀e∈bY,e<C.heap.objs.size:=λe v=>by
  let⟨@o,d,O⟩:=Qq.obj _ _ f8 e v;exact b1 d
 refine hJ (wpAny_newFunctionEnv QI.cell (by intro H pp;simp at pp) (λga ds ce=>?_) QI.kind);dsimp only at ds ce ⊢;generalize ge:C.heap.push {cls:=.type "list",dict:=Y,data:=.seq ([]:List ae).toArray}=dL at ds ce ⊢;have ch:dL.objs.size=C.heap.objs.size+1:=by rw[<-ge,my]
 have be:C.heap.objs.size≠dL.objs.size:=by rw[ch];exact c1 (oC _)
 have gl:C.heap.objs.size<=dL.objs.size:=by rw[ch];exact C1 _
 have gt:∀e o,C.heap.get? e=Z o->ga.get? e=Z o:=λe o d=>
  ce.extBut e o (by rw[ch];exact c1 (Nat.lt_succ_of_lt<|b1 d)) (b6 _<|ge ▸ b6 _ d);have li:ga.get? C.heap.objs.size=Z {cls:=.type "list",data:=.seq ([]:List ae).toArray 0}:=ce.extBut _ _ be (b6 _<|ge ▸ c_ _ rfl);generalize wl:dL.objs.size=aL at ds ce ch be gl ⊢;generalize bi:C.heap.objs.size=y at li ch be gl ⊢;have ci:C.heap.objs.size<=aL:=by rw[bi];exact gl
 let⟨@W,⟨@pr,pt⟩,turn⟩:=po ⟨aL,C,QN,bY⟩;have lm:=λ(Q1:Nat)=>PD (Q1:=Q1) QI am ci as db gt ds;have ln:=pc ⟨aL,C,QN,bY⟩;have ls:=bf ⟨aL,C,QN,bY⟩;have lv:=pi ⟨aL,C,QN,bY⟩;have g1:=EL QI am ci as db;generalize P:b.fx (fF b own QW) QS ⟨aL,C,QN,bY⟩=x at lm ln ls lv g1;have bn:x.prog=b.prog:=by rw[<-P];rfl
 have bs:x.w=b.w:=by rw[<-P];rfl
 have lw:x.K=b.K:=by rw[<-P];rfl
 have cl:x.A=b.A:=by rw[<-P];rfl
 have mb:x.calm=X:=by rw[<-P];exact o0
 have bv:x.env.locals=aL:=by rw[<-P];rfl
 have g2:x.ex=bY:=by rw[<-P];rfl
 have eq:x.eF=C:=by rw[<-P];rfl
 have pu:x.o7=QN:=by rw[<-P];rfl
 have py:x.ab=hE b.stack:=by rw[<-P];rfl
 have ev:x.jP=[]:=by rw[<-P];rfl
 have g3:x.cE=λ_ O=>False:=by rw[<-P];rfl
 have mo:x.env=tU QS (m9 b.env QS.names) aL b.env:=by rw[<-P];rfl
 have mp:∀f m,x.env.cells.lookup f=Z m->b.env.cells.lookup f=Z m:=λf m c=>(QI.sub am.ok (by rw[mo]at c;exact c)).1;have rc:∀f m,x.env.cells.lookup f=Z m->m≠y:=λf m c z=>by
  let⟨u,@o,a1,O⟩:=am.cell f m (mp f m c);have:=b1 a1;rw[z,<-bi]at this;exact jU _ this
 have hd:∀e∈bY,e≠y:=λe v z=>by
  have:=db e v;rw[z,<-bi]at this;exact jU _ this
 have re:y∉x.ab:=λz=>by
  let@⟨_,⟨@o,a1,_⟩⟩:=g1.iv.mem z;rw[eq]at a1;have:=b1 a1;rw[bi]at this;exact jU _ this
 have he:∀(F:aw) (o:a3),(∀e∈bY,F e=Y)->∀e∈bY,ja x [(y,o)] F e:=λF o hf e v=>by
  refine⟨hf e v,?_,?_,.inl (by rw[g2];exact v),λf m c=>(as e v).2.2.2.2.1 f m (mp f m c),λq D=>?_⟩
  ·rw[bv];exact c1 (e5 (db e v) ci)
  ·exact g1.o1 e (by rw[g2];exact v)
  ·rw[ev]at D;have:q=(y,o):=by simpa using D
   rw[this];exact fP (hd e v)
 have ms:∀hm:ah,hm={C with heap:=ga,toks:=C.toks+([]:List (aB×ae)).length}->
   codeAny (aO b.prog b.w) b.A (.compLoop (.ListComp Rw [⟨QY,Rl,Rv,0⟩] QS QK) 0 (.ref it) (.ref y) x.env)
    (compPost (aO b.prog b.w) b.A b.cE use f2 (.ref y) aL) hm:=by
  rintro hm rfl;refine N4 (λr Qp=>∃(a:Nat) (QJ:List af) (F:aw) (QD:List ae) (n:Nat),aA x [(y,{cls:=.type "list",data:=.seq QD.toArray n})] (jn own QW B) F Qp/\bM QJ QD/\QJ.length<=sizeLine/\i a Qp.heap/\
   (∀e∈bY,F e=Y)/\W a r QJ F) ?_ pr ?_
  ·rintro r m0 ⟨a,QJ,T,QD,n,hw,fd,na,nb,ne,rs⟩;rcases turn a r QJ T rs with ⟨stop,sc⟩|⟨go,Q2,nl,step⟩
   ·have:=Qq.done x bn bs lw mb a _ m0 _ T (λ_ O=>False) hw (he T _ ne) nb stop;rw[cl]at this;refine bU this λs N U=>?_;let@⟨h0,a2⟩:=U;subst h0;let⟨@k,hf,O⟩:=a2.loc;have sn:N.heap.Ns aL k:=by rw[<-bv];exact hf
    have D:=a2.pin (y,{cls:=.type "list",data:=.seq QD.toArray n}) (by rw[ev];simp);have ca:T y=Y:=D.2.1;have da:∀e,e≠aL->N.heap.get? e=N.heap.get? e:=λe v=>rfl;have cd:∀e o,C.heap.get? e=Z o->e≠aL:=λe o d=>c1 (e5 (b1 d) ci);have sp:∀e o,C.heap.get? e=Z o->e≠y:=λe o d=>by rw[<-bi];exact c1 (b1 d)
    have an:eX (hE b.stack) bY QN T C.heap N.heap:=by
     have:=a2.base;rw[py,g2,pu,eq]at this;exact this
    have J:eX (hE b.stack) bY QN (upd T y<|.lst QJ) C.heap N.heap:=
     ⟨λe o d r v bm=>(da e<|cd e o d).trans<|an.keep e o d r v bm,
      λe o d r v bm=>by
      let⟨@aU,p⟩:=an.slot e o d r v bm;exact⟨aU,(da e<|cd e o d).trans p⟩,
      λe o d r bm=>by rw[cU (sp e o d)];exact an.free e o d r bm,
      λe o d bm=>by
      let⟨@R,p⟩:=an.there e o d bm;exact⟨R,(da e<|cd e o d).trans p⟩,
      λe w d=>by rw[cU (gP (an.jS e w d) ca)];exact an.jS e w d,
      λe o w d=>by rw[cU (gP (an.jf e o w d) ca)];exact an.jf e o w d,
      λe QF d=>by
      let⟨@ss,p⟩:=an.k5 e QF d;exact⟨ss,by rw[cU (gP p ca)];exact p⟩⟩
    have nm:∀e o,T e=Z o->e≠aL:=λe o d z=>by
     have:=a2.free;rw[bv,<-z,d]at this;cases this
    have sw:dQ b.prog b.w (upd T y<|.lst QJ) N.heap:=λg o d=>by
     by_cases nn:g=y
     ·subst nn;rw[fa]at d;cases d;exact⟨na,QD,n,fd,(da _ be).trans D.1⟩
     ·rw[cU nn]at d;have:=a2.a0 g o d;rw[bn,bs]at this;refine this.iL (λe J v p=>(da e ?_).trans p) (λe p=>by rw[cU (gP p ca)];exact p) λe w p=>by rw[cU (gP p ca)];exact p
      rcases v with z|z
      ·rw[z];exact nm g o d
      ·exact nm e _ z
    have sB:aA b Q B (upd T y<|.lst QJ) N:=am.PW (Qp:=N) (Rt:=bY) (by have:=a2.os;rw[eq]at this;exact this) J sw a2.bare λe v=>⟨(as e v).2.2.2.1,(as e v).2.1,(as e v).2.2.2.2.1,(as e v).2.2.2.2.2⟩;have sK:b.env.locals≠aL:=by
     let⟨@wn,s0,O⟩:=am.loc;let⟨o,O,@O,a1,O⟩:=s0;exact cd _ _ a1
    have s1:∀f m,b.env.cells.lookup f=Z m->m≠aL:=λf m c=>by
     let⟨u,@o,a1,O⟩:=am.cell f m c;exact cd _ _ a1
    refine pm y aL _ N k sB sn ?_ sK s1 ?_ (λq D=>cd _ _ (am.pin q D).1) (sc y ca)
    ·rw[cU (fP be)];have:=a2.free
     rwa [bv]at this
    ·exact eG am.iI ci
   ·have:=Qq.item x bn bs lw mb a _ m0 _ T (λ_ O=>False) hw (he T _ ne) nb go;rw[cl]at this;refine bU this λs N U=>?_;let⟨@J,h0,s2⟩:=U;subst h0;refine bU s2 λ_ co U=>?_;let⟨f,@ii,s3,s4,s5,im,to⟩:=U;have tt:=s3.pinned (he ii _ to) (Qq.obj _ _ im);have no:=ln _ co _ ii f J _ tt s4 (step f ii s5);rw[bn,bs,cl,g3]at no;refine bU no λ_ ty U=>?_;let⟨cr,@tz,t0,t1,t3⟩:=U;have np:=ls _ ty cr tz _ t0 t3;rw[bn,bs,cl,g3]at np;refine bU np λe ul U=>?_;let⟨@ns,fn,fr⟩:=U;have nw:∀{of:aW}{F:aw}{Qp:ah},aA x ([(y,{cls:=.type "list",data:=.seq QD.toArray n})]++lN bY co.heap) of F Qp->(∀e∈bY,F e=Y)/\i (a+1) Qp.heap:=λ{of F Qp} cs=>by
     refine⟨λe v=>?_,Qq.keep _ _ _ im λe v o d=>(cs.pin (e,o)<|dR _<|dR _<|sx v d).1⟩;let⟨@o,d,O⟩:=Qq.obj _ _ im e v;exact (cs.pin (e,o)<|dR _<|dR _<|sx v d).2.1
    have gM:∀{io:List (ak×a3)}{F:aw}{Qp:ah},aA x io cr F Qp->aA x io (jn own QW B) F Qp:=λ{io F Qp} cs=>
     cs.weak (by rw[cs.len,hw.len]) t1;cases e with
    |false=>
     rw[aK dv]at fr;let⟨@jp,kt,un⟩:=nl _ _ fr;rw[aK dv];let@⟨Q0,Q6⟩:=nw fn;exact⟨jp,kt,a+1,QJ,ns,QD,n,gM (fn.nN λq D=>fn.pin q (by
      rw[ev];simp at D ⊢;exact .inl D)),fd,na,Q6,Q0,un⟩
    |true=>
     rw[aE rfl]at fr ⊢;have ol:=lv _ ul cr ns _ fn fr;rw[bn,bs,cl,g3]at ol;refine bU ol λal bd U=>?_;let⟨up,@kw,f0,us,wr,ut⟩:=U;let⟨@jp,kt,u8⟩:=nl _ _ ut;have D:=f0.pin (y,{cls:=.type "list",data:=.seq QD.toArray n}) (dR _ (dO _ ↥0));have lc:=D.1;refine qS Cw ⟨_,lc,rfl⟩ AU (Eh _ _) (BU y QD.toArray n al (by rw[cB,<-fd.length];lia)) ⟨lc,?_⟩;have p:=Dg lc (λg=>g.push al);let@⟨Q0,Q6⟩:=nw f0;have v0:aA x (lN bY co.heap) cr kw bd:=f0.nN λq D=>f0.pin q (dR _<|dR _ D);have on:∀e o,e≠y->bd.heap.get? e=Z o->(bd.heap.update y<|a3.mapSeq λg=>g.push al).get? e=Z o:=λe o v d=>(j9 bd.heap _<|fP v).trans d;have v1:aA x (lN bY co.heap) cr kw {bd with heap:=bd.heap.update y (a3.mapSeq λg=>g.push al),toks:=bd.toks}:=
      v0.turned (it:=y) on D.2.1 (by rw[bv];exact be) (.inr (by rw[eq,bi];exact a5 _)) rc λq f1=>by
       rw[ev]at f1;let@⟨v,_⟩:=Dr (show q∈lN bY co.heap by simpa using f1);exact hd _ v
     refine⟨jp,kt,a+1,QJ++[up],kw,QD++[al],n+1,gM<|v1.nN λq f1=>?_,fd.append<|.cons us .nil,?_,?_,Q0,u8⟩
     ·have d:q=(y,{cls:=.type "list",data:=.seq (QD++[al]).toArray (n+1)}):=by simpa using f1
      subst d;refine⟨?_,D.2.1,D.2.2.1,D.2.2.2.1,λu z=>by cases z⟩;have v2:QD.toArray.push al=(QD++[al]).toArray:=by simp
      rw[<-v2];have op:IsL (bd.heap.update y<|a3.mapSeq λg=>g.push al) y (QD.toArray.push al) (if (QD.toArray.push al).size==QD.toArray.size then n else n+1):=p;rw[aK ↥0]at op;exact op
     ·rw[dx,fk];lia
     ·refine Qq.keep _ _ _ Q6 λe v o d=>on e o (hd e v) d
  ·refine⟨0,[],QN,[],0,?_,.nil,fo _,Qq.keep _ _ _ f8 λe O o d=>gt e o d,λe v=>(as e v).1,pt⟩;refine (lm _).nN λq D=>?_;have d:q=(y,{cls:=.type "list",data:=.seq ([]:List ae).toArray 0}):=by simpa using D
   subst d;exact⟨li,am.a0.fresh (by rw[bi];exact a5 _),by rw[bv];exact be,re,λu z=>by cases z⟩
 have v4:tU QS (m9 b.env QS.names) aL b.env=x.env:=mo.symm;show codeAny (aO b.prog b.w) b.A (.compStart _ 0 (.ref it) (.ref y)<|tU QS (m9 b.env QS.names) aL b.env) _ _;rw[v4];exact codeAny_compStart_list (ms _ rfl) (Qq.self b.A 0 _ _ _ (Qq.keep _ _ _ f8 λe O o d=>gt e o d)<|ms _ rfl)
def Ol(i:b.calm=X)(QI:iG b QS own QW)(S:jM b QY Rl eT)(l:∀a,iD (b.fx (fF b own QW) QS a) QY<|L a)(bf:∀a,ra (b.fx (fF b own QW) QS a) Rv<|I a)(n:∀a,bN (b.fx (fF b own QW) QS a) Rw<|Rq a)(Qx:∀f,k8 Rl b.env f=pure f:=by intro W;rfl):bN b (.ListComp Rw [⟨QY,Rl,Rv,0⟩] QS QK) (uq own QW eT L I Rq):=by
 intro Q h B j D G c;show wpAny _ b.A (xj (.ListComp Rw [⟨QY,Rl,Rv,0⟩] QS QK) QS b.env _ (rv []) aq (b8 Rl b.env) Y) _ _ h;refine CL (use:=Y) (f2:=d4 b Q B D) i QI S l bf n Qx G c λy aL r g k s t C x m u q p=>?_;show ∃k,g.heap.Ns aL k/\∀T,aV.SameBut aL g.heap T->d4 b Q B D (.ref y) {g with heap:=T};refine⟨k,t,λT cn=>⟨.ref y,r,?_,rfl,p⟩⟩;exact s.turned (it:=aL) (QZ:=g.toks) (λe o v d=>(cn.2 e v).trans d) C (fP x) (.inr u) m q
end
def ie(c:aV)(v:ak)(QC:List ae)(Rc:Nat):Prop:=(∃o Qs,c.get? v=Z o/\o.ExactDict/\o.data=.dict Qs Rc/\Qs.toList.map (·.key)=QC)
def ie.ty(f:ie h.heap v QC Rc):h.TypeIs (.ref v) "dict" := let ⟨o,_,d,m,_⟩:=f;⟨o,d,m.1⟩
def ie.lt(f:ie c v QC Rc):v<c.objs.size:=let ⟨_,_,d,_⟩:=f;b1 d
def ie.go{T:aV}(f:ie c v QC Rc)(n:∀o,c.get? v=Z o->T.get? v=Z o):ie T v QC Rc:=let ⟨o,Qs,d,s⟩:=f;⟨o,Qs,n o d,s⟩
section
variable{Qy:bz}{l:bc}{O:bl}{Qt:ae->ah->Prop}{h:ah}
def Ia{D:ae->ah->Prop}(R:(v==iV)=aq)(f:ie h.heap v QC Rc)(p:D (.ref h.heap.objs.size) {h with heap:=h.heap.push {cls:=.type "dict_keyiterator",data:=.fields #[.ref v,.int 0 0,.int QC.length 0,.int Rc 0]} }):wpAny (aO Qy l) O (ro<|.ref v) D Qt h:=by
 have ty:=f.ty;let⟨o,@Qs,a,d,b,c⟩:=f;have r:Qs.size=QC.length:=by rw[<-c,bj,dp]
 refine wpAny_pyIter_slot ty yU (iN yU ty F.entry_dict_iter ?z<|F.args_dict_iter_1 _)
 case z=>
  unfold bq.«dict.__iter__» bq.Dict.dictSlotNone;refine av (av<|Dc ty ?_);show wpAny _ _ (pure<|ae.ref v) _ _ h;apply aS;show wpAny _ _ (bq.Dict.showsAll v >>= _) _ _ h;unfold bq.Dict.showsAll;rw[aK (by rw[R];simp)];refine av (aS<|av<|xv a b<|av<|vK a b<|av<|hJ<|aS ⟨_,rfl,"dict_keyiterator",_,⟨_,c_ _ rfl,rfl⟩,pF.lookup,?_⟩);simpa [jN,r] using p
def Jh{it v:ak}{u:ae}(b:h.heap.IsKeyIter it v a QC.length Rc)(f:ie h.heap v QC Rc)(d:QC[a]?=Z u)(p:∀T,T.IsKeyIter it v (a+1) QC.length Rc->aV.SameBut it h.heap T->D (Z u) {h with heap:=T}):wpAny (aO Qy l) O (gC<|.ref it) D Qt h:=by
 let⟨@q,e,n,c⟩:=id b;let⟨o,@Qs,i,s,j,k⟩:=f;have r:Qs.size=QC.length:=by rw[<-k,bj,dp]
 have S:a<Qs.size:=by
  have:a<QC.length:=(e9.mp d).1;lia
 have RD:Qs[a].key=u:=by
  rw[<-k,eH,eE,mA S]at d;exact Option.some.inj d
 unfold gC;refine av (pS<|lW (name:=aB.ofString "__next__") b.typeIs pF<|iN pF b.typeIs EJ ?g<|A5 _)
 case g=>
  refine av (aS<|av<|av ?_);refine av (tP b.typeIs<|aS<|av<|CT e c ?_);simp only[show bq.Dict_items.ownsTuple "dict_keyiterator" = aq by decide,gu,e1];show wpAny _ _ (if (ae.ref v==ae.none)=X then _ else _) _ _ h;rw[aK (show ¬ (ae.ref v==ae.none)=X by intro g;cases g)];refine av (aS<|av<|xv i j ?_);rw[aK (by simp[r])];refine av (aS<|av<|vK i j ?_);rw[aK ↥0];apply aS;simp only[show ¬ ((a:Int)<0) by lia,e1,q_,mA S];refine av (av<|tP b.typeIs<|aS<|av<|CC b.typeIs ?_);show wpAny _ _ (setField (.ref it) 1 (jN<|(a:Int)+1) >>= _) _ _ h;have m:(h.heap.update it (a3.mapFields (·.setIfInBounds 1 (jN<|(a:Int)+1)))).IsKeyIter it v (a+1) QC.length Rc:=
   ⟨_,oK _ e<|AW<|tI c _,(y5 ..).trans n,by rw[tI c];simp[jN]⟩;refine av (uk e c ↥0 (av (fc (av (CC (s:={h with heap:=h.heap.update it (a3.mapFields (·.setIfInBounds 1 (jN<|(a:Int)+1)))}) m.typeIs ?_)))));show wpAny _ _ (pure Qs[a].key) _ _ _;rw[RD];exact aS (aS ⟨_,rfl,aS<|p _ m<|oo ..⟩)
def M5{it v:ak}(n:O.handled=Y)(b:h.heap.IsKeyIter it v a QC.length Rc)(f:ie h.heap v QC Rc)(s:QC.length<=a)(p:∀T,aV.ExtBut it h.heap T->D Y {h with heap:=T}):wpAny (aO Qy l) O (gC<|.ref it) D Qt h:=by
 let⟨@t,d,u,i⟩:=id b;let⟨o,@Qs,j,w,m,q⟩:=f;have r:Qs.size=QC.length:=by rw[<-q,bj,dp]
 unfold gC;refine av (pS<|lW (name:=aB.ofString "__next__") b.typeIs pF<|iN pF b.typeIs EJ ?c<|A5 _)
 case c=>
  refine av (aS<|av<|av ?_);refine av (tP b.typeIs<|aS<|av<|CT d i ?_);simp only[show bq.Dict_items.ownsTuple "dict_keyiterator" = aq by decide,gu,e1];show wpAny _ _ (if (ae.ref v==ae.none)=X then _ else _) _ _ h;rw[aK (show ¬ (ae.ref v==ae.none)=X by intro c;cases c)];refine av (aS<|av<|xv j m ?_);rw[aK (by simp[r])];refine av (aS<|av<|vK j m ?_);rw[aK ↥0];apply aS;simp only[show ¬ ((a:Int)<0) by lia,e1,q_,Array.getElem?_eq_none (show Qs.size<=a by lia)];refine av (av<|tP b.typeIs<|aS ?_);show wpAny _ _ (setField (.ref it) 0 .none >>= _) _ _ h;refine av (uk d i ↥0 ?_);show wpAny _ _ (uA (.type "StopIteration") [] >>= _) _ _ _;apply av;simp only[uA,xi];refine av (hJ (av (m:=rT _ _) (qe (a:=ae.none) (by first|rfl|(simp only[rT];rfl)) (hJ ?_ (by size_fits)))) (by size_fits));simp only[raiseNew];apply av;apply zP;rw[show O.in1.handled=Y from n];refine av (m:=pure _) (aS<|wpAny_throw ?_);apply av;refine sG (T := "StopIteration") (b:=X) ⟨_,c_ _ rfl,rfl⟩ DN ?_;exact aS (p _<|((oo ..).extBut.push _).push _)
theorem Iw(j:O.handled=Y)(it v:ak)(ne:v≠it)(QC:List ae)(Rc:Nat):kM Qy l O it [it,v] [it] QC.length (λa u=>QC[a]?=Z u) (λa c=>c.IsKeyIter it v a QC.length Rc/\ie c v QC Rc) where
 sub:=λe k=>by
  have:e=it:=by simpa using k
  simp[this]
 frame:=λa c T N n=>⟨let ⟨o,d,s⟩:=N.1;⟨o,n it ↥0 o d,s⟩,N.2.go (n v ↥0)⟩
 item:=λa h D Qt S N b=>by
  have i:QC[a]?=Z QC[a]:=by simp[S]
  refine Jh N.1 N.2 i λT g e=>b _ T h.toks i ⟨g,N.2.go λo d=>e.extBut v o ne d⟩ λm o f d=>e.extBut m o ⇑f d
 done:=λh D Qt N b=>M5 j N.1 N.2 (a5 _) λT e=>b T h.toks λm o f d=>e m o ⇑f d
 self:=λa h D Qt N b=>wpAny_pyIter_keyiter N.1 b
theorem Hv(R:(v==iV)=aq):PySem.W.KdlSrc Qy l "dict" v v QC.length (λa u=>QC[a]?=Z u) (λc=>ie c v QC Rc) where
 type:=λh f=>f.ty
 there:=λc f=>⟨f.lt,f.lt⟩
 keep:=λc T f n=>f.go (n v<|.inl rfl)
 notList:=by decide
 notTuple:=by decide
 hint:=λO Qt h D f p=>PySem.W.kdl_hint_dict f.ty p
 iter:=λO h b f=>⟨_,_,(λQt D p=>Ia R f p),Iw b _ v (c1 f.lt) QC Rc,⟨⟨_,c_ _ rfl,rfl,rfl⟩,f.go λo d=>b6 _ d⟩⟩
end
end L2
namespace L2
open Spec PyProof.Rows PySem.W
section
variable{r:Nat}{M:Nat->Int}{b:Nat->Nat->(Bool->ah->Prop)->ah->Prop}
def a7(M:Nat->Int)(q:Array Nat)(a:Nat):Int:=(M (q.getD a 0))
def kU(M:Nat->Int)(q:Array Nat)(k:Nat):Prop:=(∀a i,a<=i->i<k->a7 M q a<=a7 M q i)
def fz(r:Nat)(M:Nat->Int)(b:Nat->Nat->(Bool->ah->Prop)->ah->Prop)(h:ah):Prop:=(∀a i aL,a<r->i<r->aL (decide (M a<M i)) h->b a i aL h)
def cP(r:Nat)(q:Array Nat):Prop:=(q.toList.Perm (range r))
variable{q:Array Nat}
def cP.size(c:cP r q):q.size=r:=by
 have:=c.length_eq;simpa using this
def cP.lt(c:cP r q){a:Nat}(S:a<r):q.getD a 0<r:=by
 have Qx:=c.size;have d:q.getD a 0=q[a]:=by simp[Array.getD,Qx,S]
 rw[d];have:q[a]∈q.toList:=by simp
 exact e0.mp (c.mem_iff.mp this)
def cP.ne(c:cP r q)(inj:∀a i,a<r->i<r->M a=M i->a=i){a i:Nat}(j:a<i)(b:i<r):a7 M q a≠a7 M q i:=by
 intro d;have Qx:=c.size;have e:=inj _ _ (c.lt (by omega)) (c.lt b) d;have f:q.getD a 0=q[a]:=by simp[Array.getD,Qx,show a<r by omega]
 have g:q.getD i 0=q[i]:=by simp[Array.getD,Qx,b]
 rw[f,g]at e;have ao:q.toList.Nodup:=c.nodup_iff.mpr sV;have h:q.toList[a]'(by simpa [Qx] using (show a<r by omega))=q.toList[i]'(by simpa [Qx] using b):=by simpa using e
 have:=(Ft ao).mp h;omega
def lM{p:Array Nat}{a i:Nat}(d:q[a]?=p[i]?):a7 M q a=a7 M p i:=by
 unfold a7;rw[Al,Al,d]
theorem cP.rev(c:cP r q)(a i:Nat):cP r (lR q a i):=(Df.mp<|mirror_perm q a i _).trans c
theorem cP.JI(c:cP r q)(a i:Nat):cP r (rq q a i):=(Df.mp<|bubble_perm q a i).trans c
end
section
variable{Qy:bz}{l:bc}{O:bl}{Qt:ae->ah->Prop}{QP:gf}{it:Array ba}{M:Nat->Int}{r:Nat}{h:ah}
def ot:Bool->ba->Array ba->Nat->Nat->Nat->StateT br dD (Option Nat):=(sortPriv% PySem.Builtin.gallop)
def rh(b:fz r M (eQ Qy l O QP it) h){a i:Nat}(S:a<r)(d:i<r){N:br}(e:kindOf N=QP){D:Option Bool->br->ah->Prop}(c:D (Z<|decide (M a<M i)) N h):
  kasC (aO Qy l) O Qt (lt' (a8 it a)<|a8 it i) D N h:=by
 rw[lt'_eq];apply bb;apply jx;have:=b a i (λm Qp=>Qp=h/\m=decide (M a<M i)) S d ⟨rfl,rfl⟩;unfold eQ at this;rw[e];refine bb (mw<|pS<|gQ this (λm Qp f=>?_) λ_ W g=>g.elim);let@⟨rfl,rfl⟩:=f;exact a_ c
theorem gm{B Rk:Type}{ay:gT}{C:Nat->Rk->StateT B dD (ForInStep Rk)}{D:Rk->B->ah->Prop}(G:Nat->Rk->B->ah->Prop)(step:∀f m N Qp,G f m N Qp->kasC ay O Qt (C f m) (λs b e=>match s with | .yield a=>G (f+1) a b e | .done a=>D a b e) N Qp):∀(k g:Nat) (m:Rk) (N:B) (Qp:ah),(∀m N Qp,G (g+k) m N Qp->D m N Qp)->G g m N Qp->
   kasC ay O Qt (forIn (range' g k) m C) D N Qp
 |0,g,m,N,Qp,h,c=>by
  show kasC ay O Qt (forIn ([]:List Nat) m C) D N Qp;exact kasC_nil (h m N Qp c)
 |k+1,g,m,N,Qp,h,c=>by
  show kasC ay O Qt (forIn (g::range' (g+1) k) m C) D N Qp;refine kasC_cons (gQ (step g m N Qp c) (λs e T=>?_) λ_ W d=>d);let⟨s,b⟩:=s;cases s with
  |done a=>exact T
  |yield a=>exact gm G step k (g+1) a b e (λm N Qp S=>h m N Qp (by rw[show g+(k+1)=g+1+k by lia];exact S)) T
def cD(M:Nat->Int)(left:Bool)(n:Nat)(bL:Array Nat)(QH a:Nat):Bool:=(if left=X then decide (M (bL.getD (QH+a) 0)<M n) else !decide (M n<M (bL.getD (QH+a) 0)))
def zX(Q:fz r M (eQ Qy l O QP it) h){left:Bool}{n:Nat}(T:n<r){bL:Array Nat}(ap:∀a,a<bL.size->bL.getD a 0<r){QH k b:Nat}(bd:QH+k<=bL.size)(as:b<k)(mono:∀a i,a<=i->i<k->cD M left n bL QH i=X->cD M left n bL QH a=X){N:br}(U:kindOf N=QP){D:Option Nat->br->ah->Prop}(c:∀s,s<=k->(∀a,a<s->cD M left n bL QH a=X)->(∀a,s<=a->a<k->cD M left n bL QH a=aq)->D (Z s) N h):
  kasC (aO Qy l) O Qt (ot left (a8 it n) (bL.map<|a8 it) QH k b) D N h:=by
 have a1:∀a,a<k->(bL.map<|a8 it)[QH+a]?=Z (a8 it<|bL.getD (QH+a) 0):=λa S=>by
  have:QH+a<bL.size:=⋯
  simp[Array.getD,this]
 have ask:∀a,a<k->∀P:Option Bool->br->ah->Prop,P (Z<|cD M left n bL QH a) N h->
   kasC (aO Qy l) O Qt (do let f <-elem' (bL.map<|a8 it) (QH+a);if left=X then lt' f (a8 it n) else do let s <-lt' (a8 it n) f;pure (s.map λf=>!f)) P N h:=λa S P I=>by
  rw[uB,a1 a S];apply bb;apply a_;have al:=ap (QH+a) ⋯;unfold cD at I;cases left with
  |true=>
   rw[aE rfl]at I ⊢;exact rh Q al T U I
  |false=>
   rw[aK dv]at I ⊢;exact bb (rh Q T al U<|a_ I)
 unfold ot;with_unfolding_all refine bb ?_;refine ask b as _ ?_;dsimp only;cases am:cD M left n bL QH b with
 |true=>
  rw[aE rfl];apply bb;apply fs;have G:∀last j,last<j->b+last<k->cD M left n bL QH (b+last)=X->(j >= k-b\/cD M left n bL QH (b+j)=aq)->
    b+last+1<=b+min j (k-b)/\b+min j (k-b)<=k/\(∀a,a<b+last+1->cD M left n bL QH a=X)/\(∀a,b+min j (k-b)<=a->a<k->cD M left n bL QH a=aq)/\b+min j (k-b)-(b+last+1)<=k-0:=λlast j a2 an L F=>by
   refine⟨⋯,⋯,λa S=>mono a (b+last) ⋯ an L,λa t E=>?_,⋯⟩;rcases F with F|F
   ·lia
   ·cases y:cD M left n bL QH a with
    |false=>rfl
    |true=>rw[mono (b+j) a ⋯ E y]at F;cases F
  refine gm (λf m q Qp=>q=N/\Qp=h/\∃last j,m=(Y,last,j)/\last<j/\f<j/\b+last<k/\cD M left n bL QH (b+last)=X) ?_ _ 0 _ _ _ ?_ ⟨rfl,rfl,0,1,rfl,⋯,⋯,⋯,am⟩
  ·rintro f m q Qp ⟨u,v,last,j,rfl,t,E,o,p⟩;rw[u,v];dsimp only;by_cases H:j >= k-b
   ·rw[aE H];apply a_;dsimp only;have z:=G last j t o p (.inl H);apply bb;apply fs;refine gm (λf m q Qp=>q=N/\Qp=h/\∃R S,m=(Y,R,S)/\R<=S/\S<=k/\(∀a,a<R->cD M left n bL QH a=X)/\(∀a,S<=a->a<k->cD M left n bL QH a=aq)/\S-R<=k-f) ?_ _ 0 _ _ _ ?_ ⟨rfl,rfl,_,_,rfl,z⟩
    ·rintro f m q Qp ⟨u,v,R,S,rfl,t,E,o,p,A⟩;rw[u,v];dsimp only;by_cases x:R >= S
     ·rw[aE x];apply a_;dsimp only;have d:R=S:=⋯
      subst d;exact a_ (c R E o p)
     ·rw[aK x];have B:R<=R+(S-R)/2:=⋯
      have C:R+(S-R)/2<S:=⋯
      generalize R+(S-R)/2=mid at B C ⊢;refine bb (ask mid ⋯ _ ?_);dsimp only;cases w:cD M left n bL QH mid with
      |true=>
       rw[aE rfl];exact a_ ⟨rfl,rfl,mid+1,S,rfl,⋯,E,λa J=>mono a mid ⋯ ⋯ w,p,⋯⟩
      |false=>
       rw[aK dv];refine a_ ⟨rfl,rfl,R,mid,rfl,⋯,⋯,o,λa g e=>?_,⋯⟩;cases y:cD M left n bL QH a with
       |false=>rfl
       |true=>rw[mono mid a g e y]at w;cases w
    ·rintro m q Qp ⟨u,v,R,S,rfl,t,E,o,p,A⟩;rw[u,v];dsimp only;have d:R=S:=⋯
     subst d;exact a_ (c R E o p)
   ·rw[aK H];refine bb (ask (b+j) ⋯ _ ?_);dsimp only;cases w:cD M left n bL QH (b+j) with
    |true=>
     simp only[nI,gu,e1];exact a_ ⟨rfl,rfl,j,2*j+1,rfl,⋯,⋯,⋯,w⟩
    |false=>
     simp only[Bool.not_false,gv];apply a_;dsimp only;have z:=G last j t o p (.inr w);apply bb;apply fs;refine gm (λf m q Qp=>q=N/\Qp=h/\∃R S,m=(Y,R,S)/\R<=S/\S<=k/\(∀a,a<R->cD M left n bL QH a=X)/\(∀a,S<=a->a<k->cD M left n bL QH a=aq)/\S-R<=k-f) ?_ _ 0 _ _ _ ?_ ⟨rfl,rfl,_,_,rfl,z⟩
     ·rintro f m q Qp ⟨u,v,R,S,rfl,t,E,o,p,A⟩;rw[u,v];dsimp only;by_cases x:R >= S
      ·rw[aE x];apply a_;dsimp only;have d:R=S:=⋯
       subst d;exact a_ (c R E o p)
      ·rw[aK x];have B:R<=R+(S-R)/2:=⋯
       have C:R+(S-R)/2<S:=⋯
       generalize R+(S-R)/2=mid at B C ⊢;refine bb (ask mid ⋯ _ ?_);dsimp only;cases w:cD M left n bL QH mid with
       |true=>
        rw[aE rfl];exact a_ ⟨rfl,rfl,mid+1,S,rfl,⋯,E,λa J=>mono a mid ⋯ ⋯ w,p,⋯⟩
       |false=>
        rw[aK dv];refine a_ ⟨rfl,rfl,R,mid,rfl,⋯,⋯,o,λa g e=>?_,⋯⟩;cases y:cD M left n bL QH a with
        |false=>rfl
        |true=>rw[mono mid a g e y]at w;cases w
     ·rintro m q Qp ⟨u,v,R,S,rfl,t,E,o,p,A⟩;rw[u,v];dsimp only;have d:R=S:=⋯
      subst d;exact a_ (c R E o p)
  ·rintro m q Qp ⟨u,v,last,j,rfl,t,E,o,p⟩;rw[u,v];dsimp only;have z:=G last j t o p (.inl ⋯);apply bb;apply fs;refine gm (λf m q Qp=>q=N/\Qp=h/\∃R S,m=(Y,R,S)/\R<=S/\S<=k/\(∀a,a<R->cD M left n bL QH a=X)/\(∀a,S<=a->a<k->cD M left n bL QH a=aq)/\S-R<=k-f) ?_ _ 0 _ _ _ ?_ ⟨rfl,rfl,_,_,rfl,z⟩
   ·rintro f m q Qp ⟨u,v,R,S,rfl,t,E,o,p,A⟩;rw[u,v];dsimp only;by_cases x:R >= S
    ·rw[aE x];apply a_;dsimp only;have d:R=S:=⋯
     subst d;exact a_ (c R E o p)
    ·rw[aK x];have B:R<=R+(S-R)/2:=⋯
     have C:R+(S-R)/2<S:=⋯
     generalize R+(S-R)/2=mid at B C ⊢;refine bb (ask mid ⋯ _ ?_);dsimp only;cases w:cD M left n bL QH mid with
     |true=>
      rw[aE rfl];exact a_ ⟨rfl,rfl,mid+1,S,rfl,⋯,E,λa J=>mono a mid ⋯ ⋯ w,p,⋯⟩
     |false=>
      rw[aK dv];refine a_ ⟨rfl,rfl,R,mid,rfl,⋯,⋯,o,λa g e=>?_,⋯⟩;cases y:cD M left n bL QH a with
      |false=>rfl
      |true=>rw[mono mid a g e y]at w;cases w
   ·rintro m q Qp ⟨u,v,R,S,rfl,t,E,o,p,A⟩;rw[u,v];dsimp only;have d:R=S:=⋯
    subst d;exact a_ (c R E o p)
 |false=>
  rw[aK dv];apply bb;apply fs;have G:∀last j,last<j->last<=b->cD M left n bL QH (b-last)=aq->(j >= b+1\/cD M left n bL QH (b-j)=X)->
    b+1-min j (b+1)<=b-last/\b-last<=k/\(∀a,a<b+1-min j (b+1)->cD M left n bL QH a=X)/\(∀a,b-last<=a->a<k->cD M left n bL QH a=aq)/\b-last-(b+1-min j (b+1))<=k-0:=λlast j a2 an L F=>by
   refine⟨⋯,⋯,λa S=>?_,λa t E=>?_,⋯⟩
   ·rcases F with F|F
    ·lia
    ·exact mono a (b-j) ⋯ ⋯ F
   ·cases y:cD M left n bL QH a with
    |false=>rfl
    |true=>rw[mono (b-last) a ⋯ E y]at L;cases L
  refine gm (λf m q Qp=>q=N/\Qp=h/\∃last j,m=(Y,last,j)/\last<j/\f<j/\last<=b/\cD M left n bL QH (b-last)=aq) ?_ _ 0 _ _ _ ?_ ⟨rfl,rfl,0,1,rfl,⋯,⋯,⋯,am⟩
  ·rintro f m q Qp ⟨u,v,last,j,rfl,t,E,o,p⟩;rw[u,v];dsimp only;by_cases H:j >= b+1
   ·rw[aE H];apply a_;dsimp only;have z:=G last j t o p (.inl H);apply bb;apply fs;refine gm (λf m q Qp=>q=N/\Qp=h/\∃R S,m=(Y,R,S)/\R<=S/\S<=k/\(∀a,a<R->cD M left n bL QH a=X)/\(∀a,S<=a->a<k->cD M left n bL QH a=aq)/\S-R<=k-f) ?_ _ 0 _ _ _ ?_ ⟨rfl,rfl,_,_,rfl,z⟩
    ·rintro f m q Qp ⟨u,v,R,S,rfl,t,E,o,p,A⟩;rw[u,v];dsimp only;by_cases x:R >= S
     ·rw[aE x];apply a_;dsimp only;have d:R=S:=⋯
      subst d;exact a_ (c R E o p)
     ·rw[aK x];have B:R<=R+(S-R)/2:=⋯
      have C:R+(S-R)/2<S:=⋯
      generalize R+(S-R)/2=mid at B C ⊢;refine bb (ask mid ⋯ _ ?_);dsimp only;cases w:cD M left n bL QH mid with
      |true=>
       rw[aE rfl];exact a_ ⟨rfl,rfl,mid+1,S,rfl,⋯,E,λa J=>mono a mid ⋯ ⋯ w,p,⋯⟩
      |false=>
       rw[aK dv];refine a_ ⟨rfl,rfl,R,mid,rfl,⋯,⋯,o,λa g e=>?_,⋯⟩;cases y:cD M left n bL QH a with
       |false=>rfl
       |true=>rw[mono mid a g e y]at w;cases w
    ·rintro m q Qp ⟨u,v,R,S,rfl,t,E,o,p,A⟩;rw[u,v];dsimp only;have d:R=S:=⋯
     subst d;exact a_ (c R E o p)
   ·rw[aK H];refine bb (ask (b-j) ⋯ _ ?_);dsimp only;cases w:cD M left n bL QH (b-j) with
    |false=>
     rw[aK dv];exact a_ ⟨rfl,rfl,j,2*j+1,rfl,⋯,⋯,⋯,w⟩
    |true=>
     rw[aE rfl];apply a_;dsimp only;have z:=G last j t o p (.inr w);apply bb;apply fs;refine gm (λf m q Qp=>q=N/\Qp=h/\∃R S,m=(Y,R,S)/\R<=S/\S<=k/\(∀a,a<R->cD M left n bL QH a=X)/\(∀a,S<=a->a<k->cD M left n bL QH a=aq)/\S-R<=k-f) ?_ _ 0 _ _ _ ?_ ⟨rfl,rfl,_,_,rfl,z⟩
     ·rintro f m q Qp ⟨u,v,R,S,rfl,t,E,o,p,A⟩;rw[u,v];dsimp only;by_cases x:R >= S
      ·rw[aE x];apply a_;dsimp only;have d:R=S:=⋯
       subst d;exact a_ (c R E o p)
      ·rw[aK x];have B:R<=R+(S-R)/2:=⋯
       have C:R+(S-R)/2<S:=⋯
       generalize R+(S-R)/2=mid at B C ⊢;refine bb (ask mid ⋯ _ ?_);dsimp only;cases w:cD M left n bL QH mid with
       |true=>
        rw[aE rfl];exact a_ ⟨rfl,rfl,mid+1,S,rfl,⋯,E,λa J=>mono a mid ⋯ ⋯ w,p,⋯⟩
       |false=>
        rw[aK dv];refine a_ ⟨rfl,rfl,R,mid,rfl,⋯,⋯,o,λa g e=>?_,⋯⟩;cases y:cD M left n bL QH a with
        |false=>rfl
        |true=>rw[mono mid a g e y]at w;cases w
     ·rintro m q Qp ⟨u,v,R,S,rfl,t,E,o,p,A⟩;rw[u,v];dsimp only;have d:R=S:=⋯
      subst d;exact a_ (c R E o p)
  ·rintro m q Qp ⟨u,v,last,j,rfl,t,E,o,p⟩;rw[u,v];dsimp only;have z:=G last j t o p (.inl ⋯);apply bb;apply fs;refine gm (λf m q Qp=>q=N/\Qp=h/\∃R S,m=(Y,R,S)/\R<=S/\S<=k/\(∀a,a<R->cD M left n bL QH a=X)/\(∀a,S<=a->a<k->cD M left n bL QH a=aq)/\S-R<=k-f) ?_ _ 0 _ _ _ ?_ ⟨rfl,rfl,_,_,rfl,z⟩
   ·rintro f m q Qp ⟨u,v,R,S,rfl,t,E,o,p,A⟩;rw[u,v];dsimp only;by_cases x:R >= S
    ·rw[aE x];apply a_;dsimp only;have d:R=S:=⋯
     subst d;exact a_ (c R E o p)
    ·rw[aK x];have B:R<=R+(S-R)/2:=⋯
     have C:R+(S-R)/2<S:=⋯
     generalize R+(S-R)/2=mid at B C ⊢;refine bb (ask mid ⋯ _ ?_);dsimp only;cases w:cD M left n bL QH mid with
     |true=>
      rw[aE rfl];exact a_ ⟨rfl,rfl,mid+1,S,rfl,⋯,E,λa J=>mono a mid ⋯ ⋯ w,p,⋯⟩
     |false=>
      rw[aK dv];refine a_ ⟨rfl,rfl,R,mid,rfl,⋯,⋯,o,λa g e=>?_,⋯⟩;cases y:cD M left n bL QH a with
      |false=>rfl
      |true=>rw[mono mid a g e y]at w;cases w
   ·rintro m q Qp ⟨u,v,R,S,rfl,t,E,o,p,A⟩;rw[u,v];dsimp only;have d:R=S:=⋯
    subst d;exact a_ (c R E o p)
end
section
variable{M:Nat->Int}
def cc(M:Nat->Int)(x:List Nat):Prop:=(x.Pairwise λf H=>M f<=M H)
structure KQ(M:Nat->Int)(u w:List Nat)(b:List Nat)(y F:Nat):Prop where
 perm:b.Perm (u.take y++w.take F)
 aG:cc M (b++u.drop y)
 cn:cc M (b++w.drop F)
 bL:y+1<u.length
 jz:F<w.length
variable{x k:List Nat}
def e7:cc M (x++k)↔cc M x/\cc M k/\∀f∈x,∀H∈k,M f<=M H:=zj
def oJ(x:List Nat)(a n:Nat):x.take a++(x.drop a).take n=x.take (a+n):=by rw[List.take_add]
variable{u w b:List Nat}{y F:Nat}
def tb(n:Nat)(perm:b.Perm (u.take y++w.take F))(aG:cc M (b++u.drop y))(cn:cc M (b++w.drop F))(c:∀f∈(u.drop y).take n,∀H∈w.drop F,M f<=M H):
  (b++(u.drop y).take n).Perm (u.take (y+n)++w.take F)/\cc M (b++(u.drop y).take n++u.drop (y+n))/\cc M (b++(u.drop y).take n++w.drop F):=by
 refine⟨?_,?_,?_⟩
 ·rw[<-oJ u y n];refine (perm.append_right _).trans ?_;rw[bA,bA];exact dT _ c6
 ·rw[bA,<-mx,e6];exact aG
 ·rw[bA];have d:=e7.mp aG;have e:=e7.mp cn;refine e7.mpr ⟨d.1,e7.mpr ⟨d.2.1.sublist<|pf _ _,e.2.1,c⟩,λf g H a=>?_⟩;rcases dG.mp a with a|a
  ·exact d.2.2 f g H (m7 a)
  ·exact e.2.2 f g H a
def yc(n:Nat)(perm:b.Perm (u.take y++w.take F))(aG:cc M (b++u.drop y))(cn:cc M (b++w.drop F))(c:∀f∈(w.drop F).take n,∀H∈u.drop y,M f<=M H):
  (b++(w.drop F).take n).Perm (u.take y++w.take (F+n))/\cc M (b++(w.drop F).take n++u.drop y)/\cc M (b++(w.drop F).take n++w.drop (F+n)):=by
 have:=tb (u:=w) (w:=u) n (perm.trans c6) cn aG c;exact⟨this.1.trans c6,this.2.2,this.2.1⟩
variable{a:Nat}
def jj(c:a<x.length):(x.drop a).take 1=[x.getD a 0]:=by
 rw[iE c,cx,eb c];rfl
variable{H:Nat}
def jd(c:H∈x.drop a):∃i,a<=i/\i<x.length/\H=x.getD i 0:=by
 let⟨i,b,d⟩:=kL.mp c;have e:=b;rw[gc]at e;exact⟨a+i,⋯,⋯,by rw[<-d,oG];simp[List.getD,show a+i<x.length by lia]⟩
variable{n:Nat}
def nV(c:H∈(x.drop a).take n):∃i,i<n/\a+i<x.length/\H=x.getD (a+i) 0:=by
 let⟨i,b,d⟩:=kL.mp c;have e:=b;rw[fG,gc]at e;exact⟨i,by omega,by omega,by rw[<-d,tT,oG];simp[List.getD,show a+i<x.length by omega]⟩
def nq(c:cc M x){a i:Nat}(d:a<=i)(b:i<x.length):M (x.getD a 0)<=M (x.getD i 0):=by
 rcases Nat.lt_or_eq_of_le d with e|rfl
 ·have:=mm.mp c a i ⋯ b e;simpa [List.getD,b,show a<x.length by lia] using this
 ·exact jJ _
theorem A8(c:cc M (x++k)):cc M k:=(e7.mp c).2.1
def nX{i:Nat}(c:cc M (b++x.drop a))(d:a<=i)(e:i<=n)(f:n<x.length):M (x.getD i 0)<=M (x.getD n 0):=by
 have:=nq (A8 c) (a:=i-a) (i:=n-a) ⋯ (by rw[gc];lia);simpa [List.getD,lB,show a+(i-a)=i by lia,show a+(n-a)=n by lia] using this
def f_(M:Nat->Int)(it:Array ba)(u w:List Nat)(out:Array ba):Prop:=(∃b:List Nat,out=(b.map<|a8 it).toArray/\b.Perm (u++w)/\cc M b)
def pw{it:Array ba}(perm:b.Perm (u.take y++w.take F))(aG:cc M (b++u.drop y))(cn:cc M (b++w.drop F))(a:F=w.length\/y=u.length):
  f_ M it u w ((b.map<|a8 it).toArray++(u.map<|a8 it).toArray.extract y (u.map<|a8 it).toArray.size++(w.map<|a8 it).toArray.extract F (w.map<|a8 it).toArray.size):=by
 refine⟨b++u.drop y++w.drop F,?_,?_,?_⟩
 ·apply jW;simp[iP,qM]
 ·rw[bA];refine (perm.append_right _).trans ?_;have:(u.take y++w.take F++(u.drop y++w.drop F)).Perm ((u.take y++u.drop y)++(w.take F++w.drop F)):=by
   rw[bA,bA];refine dT _ ?_;rw[<-bA,<-bA];exact e8 _ c6
  rw[e6,e6]at this;exact this
 ·rcases a with d|d
  ·rw[d,xn,cC];exact aG
  ·rw[d,xn,cC];exact cn
def r1{it:Array ba}(perm:b.Perm (u.take y++w.take F))(aG:cc M (b++u.drop y))(cn:cc M (b++w.drop F))(d:y+1=u.length)(d9:∀f∈w,M f<=M (u.getD (u.length-1) 0)):
  f_ M it u w ((b.map<|a8 it).toArray++(w.map<|a8 it).toArray.extract F (w.map<|a8 it).toArray.size++(u.map<|a8 it).toArray.extract y (u.map<|a8 it).toArray.size):=by
 refine⟨b++w.drop F++u.drop y,?_,?_,?_⟩
 ·apply jW;simp[iP,qM]
 ·rw[bA];refine (perm.append_right _).trans ?_;have:(u.take y++w.take F++(w.drop F++u.drop y)).Perm ((u.take y++u.drop y)++(w.take F++w.drop F)):=by
   rw[bA,bA];refine dT _ ?_;rw[<-bA];exact c6
  rw[e6,e6]at this;exact this
 ·refine e7.mpr ⟨cn,A8 aG,λf a H c=>?_⟩;rcases dG.mp a with a|a
  ·exact (e7.mp aG).2.2 f a H c
  ·let⟨@i,t,E,rfl⟩:=jd c;have:i=u.length-1:=⋯
   rw[this];exact d9 f (l_ a)
end
section
variable{Qy:bz}{l:bc}{O:bl}{Qt:ae->ah->Prop}{QP:gf}{it:Array ba}{M:Nat->Int}{r:Nat}{h:ah}
def Bk:Array ba->Array ba->StateT br dD (Array ba):=(sortPriv% PySem.Builtin.mergeLo)
structure c5(s N:br):Prop where
 k:kindOf N=kindOf s
 a:arrOf N=arrOf s
 p:hv N=hv s
 f:ht N=ht s
def c5.refl(N:br):c5 N N:=⟨rfl,rfl,rfl,rfl⟩
def g6{B QT:Type}{ay:gT}{k:StateT B dD QT}{D a:QT->B->ah->Prop}{N:B}{Qp:ah}(c:kasC ay O Qt k a N Qp)(L:∀g N Qp,a g N Qp->D g N Qp):kasC ay O Qt k D N Qp:=
 gQ c (λs Qp f=>L s.1 s.2 Qp f) λ_ W d=>d
variable{x:List Nat}
def fN{a:Nat}(S:a<x.length){N:br}{D:ba->br->ah->Prop}(c:D (a8 it<|x.getD a 0) N h):kasC (aO Qy l) O Qt (elem' (x.map<|a8 it).toArray a) D N h:=by
 rw[uB,show ((x.map<|a8 it).toArray)[a]?=Z (a8 it<|x.getD a 0) by simp[List.getD,S]];exact a_ c
def iK(b:∀f∈x,f<r){a:Nat}(S:a<x.length):x.getD a 0<r:=by
 rw[cx,eb S];exact b _ (sE S)
def ki(x:List Nat)(a:Nat):x.toArray.getD a 0=x.getD a 0:=by simp[Array.getD,List.getD];split<;>simp_all
def wj(d:fz r M (eQ Qy l O QP it) h){n:Nat}(j:n<r){x:List Nat}(m:∀f∈x,f<r){QH k b:Nat}(o:QH+k<=x.length)(p:b<k)(mono:∀a i,QH<=a->a<=i->i<QH+k->M (x.getD a 0)<=M (x.getD i 0)){N:br}(q:kindOf N=QP){D:Option Nat->br->ah->Prop}(c:∀s,s<=k->(∀a,QH<=a->a<QH+s->M (x.getD a 0)<=M n)->(∀a,QH+s<=a->a<QH+k->M n<M (x.getD a 0))->D (Z s) N h):
  kasC (aO Qy l) O Qt (ot aq (a8 it n) (x.map<|a8 it).toArray QH k b) D N h:=by
 rw[<-yZ];refine zX d j (λa S=>by rw[ki];exact iK m ⇑S) ⇑o p (λa i w y u=>?_) q λs v g e=>c s v (λa t E=>?_) (λa t E=>?_)
 ·simp only[cD,ki,gu,e1,ks,k_,wo]at u ⊢;have:=mono (QH+a) (QH+i) ⋯ ⋯ ⋯;lia
 ·have:=g (a-QH) ⋯;simp only[cD,ki,gu,e1,ks,k_,wo]at this
  rwa [show QH+(a-QH)=a by lia]at this
 ·have:=e (a-QH) ⋯ ⋯;simp only[cD,ki,gu,e1,Bool.not_eq_false',xI]at this
  rwa [show QH+(a-QH)=a by lia]at this
def uJ(d:fz r M (eQ Qy l O QP it) h){n:Nat}(j:n<r){x:List Nat}(m:∀f∈x,f<r){QH k b:Nat}(o:QH+k<=x.length)(p:b<k)(mono:∀a i,QH<=a->a<=i->i<QH+k->M (x.getD a 0)<=M (x.getD i 0)){N:br}(q:kindOf N=QP){D:Option Nat->br->ah->Prop}(c:∀s,s<=k->(∀a,QH<=a->a<QH+s->M (x.getD a 0)<M n)->(∀a,QH+s<=a->a<QH+k->M n<=M (x.getD a 0))->D (Z s) N h):
  kasC (aO Qy l) O Qt (ot X (a8 it n) (x.map<|a8 it).toArray QH k b) D N h:=by
 rw[<-yZ];refine zX d j (λa S=>by rw[ki];exact iK m ⇑S) ⇑o p (λa i w y u=>?_) q λs v g e=>c s v (λa t E=>?_) (λa t E=>?_)
 ·simp only[cD,ki,gv,xI]at u ⊢;have:=mono (QH+a) (QH+i) ⋯ ⋯ ⋯;lia
 ·have:=g (a-QH) ⋯;simp only[cD,ki,gv,xI]at this
  rwa [show QH+(a-QH)=a by lia]at this
 ·have:=e (a-QH) ⋯ ⋯;simp only[cD,ki,gv,k_,wo]at this
  rwa [show QH+(a-QH)=a by lia]at this
def oS(b:List Nat)(H:Nat):(b.map<|a8 it).toArray.push (a8 it H)=((b++[H]).map<|a8 it).toArray:=by simp
def By(b x:List Nat)(a n:Nat):(b.map<|a8 it).toArray++(x.map<|a8 it).toArray.extract a (a+n)=((b++(x.drop a).take n).map<|a8 it).toArray:=by
 apply jW;simp[iP,iU,pV]
end
section
variable{Qy:bz}{l:bc}{O:bl}{Qt:ae->ah->Prop}{QP:gf}{it:Array ba}{M:Nat->Int}{r:Nat}{h:ah}
def gZ(M:Nat->Int)(it:Array ba)(u w:List Nat)(out:Array ba)(y F:Nat):Prop:=(∃b:List Nat,out=(b.map<|a8 it).toArray/\KQ M u w b y F)
variable{B QT:Type}
def AA{ay:gT}{O:bl}{Qt:ae->ah->Prop}{m:Nat->Prop}{b:∀L,Decidable (m L)}{g Qr:Nat->StateT B dD QT}{D:QT->B->ah->Prop}{N:B}{h:ah}(f:Nat->Nat)(a:∀L,g L=Qr (f L))(j:∀L,kasC ay O Qt (Qr L) D N h):∀L,kasC ay O Qt (if m L then g L else Qr L) D N h:=by
 intro L;rw[a];split
 ·exact j _
 ·exact j _
variable{m:Prop}
def r6{ay:gT}{O:bl}{Qt:ae->ah->Prop}{i:Decidable m}{b Rn:Array ba->Nat->StateT B dD QT}{D:QT->B->ah->Prop}{N:B}{h:ah}(d e:Array ba->Nat->Prop)(j:∀o a,e o a->kasC ay O Qt (Rn o a) D N h)(f:¬ m->∀o a,d o a->e o a)(g:(∀o a,e o a->kasC ay O Qt (Rn o a) D N h)->m->∀o a,d o a->kasC ay O Qt (b o a) D N h):∀o a,d o a->kasC ay O Qt (if m then b o a else Rn o a) D N h:=λo a q=>
 if c:m then by rw[aE c];exact g j c o a q else by rw[aK c];exact j o a (f c o a q)
def Fb{ay:gT}{O:bl}{Qt:ae->ah->Prop}{C:br->br}{D:PUnit->br->ah->Prop}{s N:br}{h:ah}(Qx:c5 s (C N))(c:∀a,c5 s a->D ⟨⟩ a h):kasC ay O Qt (modify C:StateT br dD PUnit) D N h:=kg (c _ Qx)
def p2(M:Nat->Int)(it:Array ba)(u w:List Nat)(N:br)(h:ah): Option (Array ba)×Array ba×Nat×Nat×Nat->br->ah->Prop:=(λm b Qp=>h=Qp/\c5 N b/\∃a q p s L,m=(Z a,q,p,s,L)/\f_ M it u w a)
def pP(M:Nat->Int)(it:Array ba)(u w:List Nat)(N:br)(h:ah)(f:Nat):Option (Array ba)×Array ba×Nat×Nat×Nat->br->ah->Prop:=(λm a Qp=>h=Qp/\c5 N a/\∃o y F L,m=(Y,o,y,F,L)/\gZ M it u w o y F/\f+1<=y+F)
def kf(M:Nat->Int)(it:Array ba)(u w:List Nat)(N:br)(h:ah)(f:Nat):Option (Array ba)×Array ba×Nat×Nat×Nat×Nat->br->ah->Prop:=(λm c Qp=>h=Qp/\c5 N c/\((∃b q p s ac a,m=(Z b,q,p,s,ac,a)/\f_ M it u w b)\/∃o y F ac a,m=(Y,o,y,F,ac,a)/\gZ M it u w o y F/\f+2<=y+F))
def oj(M:Nat->Int)(it:Array ba)(u w:List Nat)(N:br)(h:ah)(f H:Nat):Option (Array ba)×Array ba×Nat×Nat×Nat×Nat->br->ah->Prop:=(λm a Qp=>h=Qp/\c5 N a/\∃o y F ac b,m=(Y,o,y,F,ac,b)/\gZ M it u w o y F/\f+1+H<=y+F)
def iT(M:Nat->Int)(it:Array ba)(u w:List Nat)(N:br)(h:ah)(f:Nat):Option (Array ba)×Array ba×Nat×Nat×Nat×Nat×Nat->br->ah->Prop:=(λm c Qp=>h=Qp/\c5 N c/\((∃b q p s L ac a,m=(Z b,q,p,s,L,ac,a)/\f_ M it u w b)\/∃o y F L ac a,m=(Y,o,y,F,L,ac,a)/\gZ M it u w o y F/\f+2<=y+F))
def qt(M:Nat->Int)(it:Array ba)(u w:List Nat)(N:br)(h:ah)(f H:Nat):Option (Array ba)×Array ba×Nat×Nat×Nat×Nat×Nat->br->ah->Prop:=(λm a Qp=>h=Qp/\c5 N a/\∃o y F L ac b,m=(Y,o,y,F,L,ac,b)/\gZ M it u w o y F/\f+2<=y+F)
def p2.a{M:Nat->Int}{it:Array ba}{u w:List Nat}{N b:br}{h:ah}{out:Array ba}{q:Array ba}{p s:Nat}{L:Nat}(c:c5 N b)(k:f_ M it u w out):p2 M it u w N h (Z out,q,p,s,L) b h:=⟨rfl,c,_,_,_,_,_,rfl,k⟩
def pP.k{M:Nat->Int}{it:Array ba}{u w:List Nat}{N a:br}{h:ah}{f:Nat}{o:Array ba}{y F:Nat}{L:Nat}(c:c5 N a)(i:gZ M it u w o y F)(d:f+1<=y+F):pP M it u w N h f (Y,o,y,F,L) a h:=⟨rfl,c,_,_,_,_,rfl,i,d⟩
def kf.a{M:Nat->Int}{it:Array ba}{u w:List Nat}{N b:br}{h:ah}{f:Nat}{out:Array ba}{q:Array ba}{p s:Nat}{L d:Nat}(c:c5 N b)(k:f_ M it u w out):kf M it u w N h f (Z out,q,p,s,L,d) b h:=⟨rfl,c,.inl ⟨_,_,_,_,_,_,rfl,k⟩⟩
def kf.b{M:Nat->Int}{it:Array ba}{u w:List Nat}{N a:br}{h:ah}{f:Nat}{o:Array ba}{y F:Nat}{L g:Nat}(c:c5 N a)(i:gZ M it u w o y F)(d:f+2<=y+F):kf M it u w N h f (Y,o,y,F,L,g) a h:=⟨rfl,c,.inr ⟨_,_,_,_,_,rfl,i,d⟩⟩
def oj.k{M:Nat->Int}{it:Array ba}{u w:List Nat}{N a:br}{h:ah}{f H:Nat}{o:Array ba}{y F:Nat}{L b:Nat}(c:c5 N a)(i:gZ M it u w o y F)(d:f+1+H<=y+F):oj M it u w N h f H (Y,o,y,F,L,b) a h:=⟨rfl,c,_,_,_,_,_,rfl,i,d⟩
def iT.a{M:Nat->Int}{it:Array ba}{u w:List Nat}{N b:br}{h:ah}{f:Nat}{out:Array ba}{q:Array ba}{p s:Nat}{L d e:Nat}(c:c5 N b)(k:f_ M it u w out):iT M it u w N h f (Z out,q,p,s,L,d,e) b h:=⟨rfl,c,.inl ⟨_,_,_,_,_,_,_,rfl,k⟩⟩
def iT.b{M:Nat->Int}{it:Array ba}{u w:List Nat}{N a:br}{h:ah}{f:Nat}{o:Array ba}{y F:Nat}{L g j:Nat}(c:c5 N a)(i:gZ M it u w o y F)(d:f+2<=y+F):iT M it u w N h f (Y,o,y,F,L,g,j) a h:=⟨rfl,c,.inr ⟨_,_,_,_,_,_,rfl,i,d⟩⟩
def qt.k{M:Nat->Int}{it:Array ba}{u w:List Nat}{N a:br}{h:ah}{f H:Nat}{o:Array ba}{y F:Nat}{L b e:Nat}(c:c5 N a)(i:gZ M it u w o y F)(d:f+2<=y+F):qt M it u w N h f H (Y,o,y,F,L,b,e) a h:=⟨rfl,c,_,_,_,_,_,_,rfl,i,d⟩
def Jg{g e:Nat}(c:g=e):(g==e)=X:=by simp[c]
def Pl{g e:Nat}(c:¬ g=e):¬ (g==e)=X:=by simp[c]
def ky{ay:gT}{O:bl}{Qt:ae->ah->Prop}{g:Nat}{x:List Nat}{f H:StateT B dD QT}{D:QT->B->ah->Prop}{N:B}{h:ah}(bf:g=x.length->kasC ay O Qt f D N h)(a:¬ g=x.length->kasC ay O Qt H D N h):kasC ay O Qt (if (g==(List.map (a8 it) x).toArray.size)=X then f else H) D N h:=by
 rw[show (List.map (a8 it) x).toArray.size=x.length by simp];by_cases c:g=x.length
 ·rw[aE (Jg c)];exact bf c
 ·rw[aK (Pl c)];exact a c
def kp{ay:gT}{O:bl}{Qt:ae->ah->Prop}{b:Decidable m}{f H:StateT B dD QT}{D:QT->B->ah->Prop}{N:B}{h:ah}(bf:m->kasC ay O Qt f D N h)(a:¬ m->kasC ay O Qt H D N h):kasC ay O Qt (if m then f else H) D N h:=if c:m then by rw[aE c];exact bf c else by rw[aK c];exact a c
def J4(b:fz r M (eQ Qy l O QP it) h){n:Nat}(d:n<r){x:List Nat}(j:∀f∈x,f<r){QH:Nat}(p:QH<x.length)(mono:∀a i,QH<=a->a<=i->i<x.length->M (x.getD a 0)<=M (x.getD i 0)){N:br}(k:kindOf N=QP){D:Option Nat->br->ah->Prop}(c:∀s,QH+s<=x.length->(∀a,QH<=a->a<QH+s->M (x.getD a 0)<=M n)->(∀a,QH+s<=a->a<x.length->M n<M (x.getD a 0))->D (Z s) N h):
  kasC (aO Qy l) O Qt (ot aq (a8 it n) (x.map<|a8 it).toArray QH ((x.map<|a8 it).toArray.size-QH) 0) D N h:=by
 rw[show (x.map<|a8 it).toArray.size=x.length by simp];exact wj b d j ⋯ ⋯ (λa i g e m=>mono a i g e ⋯) k λs t E o=>c s ⋯ E λa g e=>o a g ⋯
def PX(b:fz r M (eQ Qy l O QP it) h){n:Nat}(d:n<r){x:List Nat}(j:∀f∈x,f<r){QH:Nat}(p:QH<x.length)(mono:∀a i,QH<=a->a<=i->i<x.length->M (x.getD a 0)<=M (x.getD i 0)){N:br}(k:kindOf N=QP){D:Option Nat->br->ah->Prop}(c:∀s,QH+s<=x.length->(∀a,QH<=a->a<QH+s->M (x.getD a 0)<M n)->(∀a,QH+s<=a->a<x.length->M n<=M (x.getD a 0))->D (Z s) N h):
  kasC (aO Qy l) O Qt (ot X (a8 it n) (x.map<|a8 it).toArray QH ((x.map<|a8 it).toArray.size-QH) 0) D N h:=by
 rw[show (x.map<|a8 it).toArray.size=x.length by simp];exact uJ b d j ⋯ ⋯ (λa i g e m=>mono a i g e ⋯) k λs t E o=>c s ⋯ E λa g e=>o a g ⋯
def Nx(bi:fz r M (eQ Qy l O QP it) h){u w:List Nat}(bm:∀f∈u,f<r)(bn:∀f∈w,f<r)(fn:cc M u)(fr:cc M w)(hw:0<u.length)(t:0<w.length)(first:∀f∈u,M (w.getD 0 0)<=M f)(d9:∀f∈w,M f<=M (u.getD (u.length-1) 0)){N:br}(ci:kindOf N=QP){D:Array ba->br->ah->Prop}(c:∀out E,f_ M it u w out->c5 N E->D out E h):
  kasC (aO Qy l) O Qt (Bk (u.map<|a8 it).toArray (w.map<|a8 it).toArray) D N h:=by
 have bs:[w.getD 0 0].Perm (u.take 0++w.take 1):=by
  have:=jj (x:=w) (a:=0) t;simp only[kh]at this;rw[this];exact List.Perm.refl _
 have bv:cc M ([w.getD 0 0]++w.drop 1):=by
  have:=jj (x:=w) (a:=0) t;simp only[kh]at this;rw[<-this,e6];exact fr
 have ca:cc M ([w.getD 0 0]++u.drop 0):=e7.mpr ⟨eY _ _,by rw[kh];exact fn,λf d H v=>by
  rw[cK.mp d];exact first H (by rwa [kh]at v)⟩
 have h0:(List.map (a8 it) u).toArray.size=u.length:=by simp
 have ii:(List.map (a8 it) w).toArray.size=w.length:=by simp
 unfold Bk;with_unfolding_all refine bb (mw<|iJ ?_);refine bb (fN t ?_);refine ky (λcl=>a_<|c _ _ (pw bs ca bv<|.inl cl)<|c5.refl N) λcl=>?_;refine ky (λco=>a_<|c _ _ (r1 bs ca bv co d9)<|c5.refl N) λco=>?_;refine bb (jx ?_);refine bb (g6 (a:=p2 M it u w N h) (fs (gm (pP M it u w N h) ?step _ 0 _ _ _ ?fin (pP.k (c5.refl N) ⟨_,rfl,bs,ca,bv,⋯,⋯⟩ ⋯))) ?after)
 case after=>
  rintro m E Qp ⟨rfl,Qx,cs,o,y,F,L,rfl,an⟩;exact a_ (c _ _ an Qx)
 case fin=>
  rintro m E Qp ⟨rfl,Qx,o,y,F,L,rfl,⟨b,rfl,k⟩,d⟩;have:=k.bL;have:=k.jz;lia
 case step=>
  rintro f m E Qp ⟨rfl,Qx,o,y,F,L,rfl,G,d⟩;refine bb (g6 (a:=kf M it u w N h f)
   (fs (gm (oj M it u w N h f) ?f0 _ 0 _ _ _ ?f4 (oj.k Qx G ⋯))) ?f8)
  case f4=>
   rintro m E Qp ⟨rfl,Qx,o,y,F,ac,T,rfl,G,d⟩;exact kf.b Qx G ⋯
  case f0=>
   rintro H m E Qp ⟨rfl,Qx,o,y,F,ac,T,rfl,⟨b,rfl,k⟩,d⟩;have ap:=k.bL;have z:=k.jz;have bd:kindOf E=QP:=Qx.k.trans ci;have B:y<u.length:=⋯
   have dV:M (w.getD F 0)<M (u.getD y 0)->(b++[w.getD F 0]).Perm (u.take y++w.take (F+1))/\cc M (b++[w.getD F 0]++u.drop y)/\cc M (b++[w.getD F 0]++w.drop (F+1)):=λas=>by
    have:=yc 1 k.perm k.aG k.cn (λf d H v=>by
     rw[jj z,cK]at d;let⟨@i,I,U,rfl⟩:=jd v;have:=nX k.aG (a5 _) I U;rw[d];lia)
    rwa [jj z]at this
   have dg:¬ M (w.getD F 0)<M (u.getD y 0)->(b++[u.getD y 0]).Perm (u.take (y+1)++w.take F)/\cc M (b++[u.getD y 0]++u.drop (y+1))/\cc M (b++[u.getD y 0]++w.drop F):=λas=>by
    have:=tb 1 k.perm k.aG k.cn (λf d H v=>by
     rw[jj B,cK]at d;let⟨@i,I,U,rfl⟩:=jd v;have:=nX k.cn (a5 _) I U;rw[d];lia)
    rwa [jj B]at this
   refine bb (fN z<|bb<|fN B<|bb<|rh bi (iK bn z) (iK bm B) bd ?_);refine kp (λas=>?_) λas=>?_
   ·have e:=dV ⇑as;refine bb (fN z (ky (λP=>a_ (kf.a Qx (by rw[oS];exact pw e.1 e.2.1 e.2.2 (.inl P)))) λP=>?_));have Q:gZ M it u w ((b.map<|a8 it).toArray.push<|a8 it<|w.getD F 0) y (F+1):=⟨_,oS _ _,e.1,e.2.1,e.2.2,ap,⋯⟩;exact kp (λ_=>a_ (kf.b Qx Q ⋯)) λ_=>a_ (oj.k Qx Q ⋯)
   ·have e:=dg ⇑as;refine bb (fN B (ky (λP=>a_ (kf.a Qx (by rw[oS];exact r1 e.1 e.2.1 e.2.2 P d9))) λP=>?_));have Q:gZ M it u w ((b.map<|a8 it).toArray.push<|a8 it<|u.getD y 0) (y+1) F:=⟨_,oS _ _,e.1,e.2.1,e.2.2,⋯,z⟩;exact kp (λ_=>a_ (kf.b Qx Q ⋯)) λ_=>a_ (oj.k Qx Q ⋯)
  case f8=>
   rintro m E Qp ⟨rfl,Qx,⟨cs,o,y,F,ac,T,rfl,an⟩|⟨o,y,F,ac,T,rfl,G,d⟩⟩
   ·exact a_ (p2.a Qx an)
   ·refine bb (mw<|iJ ?_);refine bb (g6 (a:=iT M it u w N h f)
     (fs (gm (qt M it u w N h f) ?ga _ 0 _ _ _ ?fin2 (qt.k Qx G ⋯))) ?ge)
    case fin2=>
     rintro m E Qp ⟨rfl,Qx,o,y,F,L,ac,T,rfl,G,d⟩;exact iT.b Qx G ⋯
    case ge=>
     rintro m E Qp ⟨rfl,Qx,⟨cs,o,y,F,L,ac,T,rfl,an⟩|⟨o,y,F,L,ac,T,rfl,G,d⟩⟩
     ·exact a_ (p2.a Qx an)
     ·refine bb (kg ?_);exact a_ (pP.k ⟨Qx.k,Qx.a,Qx.p,Qx.f⟩ G ⋯)
    case ga=>
     rintro H m E Qp ⟨rfl,Qx,o,y,F,L,ac,T,rfl,⟨b,db,k⟩,d⟩;have ap:=k.bL;have z:=k.jz;dsimp only;revert L;refine AA (λL=>L-1) ?B ?_
     case B=>exact λL=>rfl
     intro L;refine bb (Fb (s:=N) ⟨Qx.k,Qx.a,Qx.p,Qx.f⟩ λim S=>?_);have bd:=S.k.trans ci;refine bb (fN z ?_);refine bb (J4 bi (iK bn z) bm (show y<u.length by lia) (λa i g e m=>nX k.aG g e m) bd ?_);intro n io gl ds;dsimp only;generalize a1:o=R;generalize a2:y=a;have Qr:R=o/\a=y:=⟨a1.symm,a2.symm⟩;clear a1 a2;revert R a;refine r6 (λR a=>R=o/\a=y) (λR a=>gZ M it u w R a F/\y<=a/\∀i,a<=i->i<u.length->M (w.getD F 0)<M (u.getD i 0)) ?QB ?f1 ?go
     case f1=>
      rintro gt R a ⟨rfl,rfl⟩;exact⟨⟨b,db,k⟩,a5 _,λi g e=>ds i ⋯ e⟩
     case go=>
      rintro j _ R a ⟨rfl,rfl⟩;try dsimp only
      have J:=tb n k.perm k.aG k.cn (λf d H v=>by
       let⟨@i,g1,I,rfl⟩:=nV d;let⟨@g2,cd,ce,rfl⟩:=jd v;have:=gl (a+i) ⋯ ⋯;have:=nX k.cn (a5 _) cd ce;lia)
      rw[db,By];refine ky (λP=>a_<|iT.a S<|r1 J.1 J.2.1 J.2.2 P d9) λP=>?_;refine ky (λdL=>a_<|iT.a S<|pw J.1 J.2.1 J.2.2<|.inr dL) λdL=>?_;exact j _ _ ⟨⟨_,rfl,J.1,J.2.1,J.2.2,⋯,z⟩,⋯,λi g e=>ds i g e⟩
     case QB=>
      rintro R a ⟨⟨b,rfl,k⟩,le,g3⟩;have ap:=k.bL;try dsimp only
      refine bb (fN z ?_);have Rf:=yc 1 k.perm k.aG k.cn (λf d H v=>by
       rw[jj z,cK]at d;let⟨@i,I,U,rfl⟩:=jd v;have:=g3 i I U;rw[d];lia)
      rw[jj z]at Rf;rw[oS];refine ky (λeq=>a_<|iT.a S<|pw Rf.1 Rf.2.1 Rf.2.2<|.inl eq) λeq=>?_;have B:a<u.length:=⋯
      refine bb (fN B ?_);refine bb (PX bi (iK bm B) bn (show F+1<w.length by lia) (λa i g e m=>nX Rf.2.2 g e m) bd ?_);intro Q6 jp hd ev;dsimp only;generalize b++[w.getD F 0]=ch at *;generalize kt:F+1=be at *;generalize a1:(List.map (a8 it) ch).toArray=R;generalize a2:be=i;have Qr:R=(List.map (a8 it) ch).toArray/\i=be:=⟨a1.symm,a2.symm⟩;clear a1 a2;revert R i;refine r6 (λR i=>R=(List.map (a8 it) ch).toArray/\i=be) (λR i=>gZ M it u w R a i/\be<=i/\∀A,i<=A->A<w.length->M (u.getD a 0)<=M (w.getD A 0)) ?QN ?f2 ?he
      case f2=>
       rintro gt R i ⟨rfl,rfl⟩;exact⟨⟨_,rfl,Rf.1,Rf.2.1,Rf.2.2,ap,⋯⟩,a5 _,λA g e=>ev A ⋯ e⟩
      case he=>
       rintro j _ R i ⟨rfl,rfl⟩;try dsimp only
       have am:=yc Q6 Rf.1 Rf.2.1 Rf.2.2 (λf d H v=>by
        let⟨@A,g1,I,rfl⟩:=nV d;let⟨@g2,cd,ce,rfl⟩:=jd v;have:=hd (i+A) ⋯ ⋯;have:=nX Rf.2.1 (a5 _) cd ce;lia)
       rw[By];refine ky (λex=>a_<|iT.a S<|pw am.1 am.2.1 am.2.2<|.inl ex) λex=>?_;exact j _ _ ⟨⟨_,rfl,am.1,am.2.1,am.2.2,ap,⋯⟩,⋯,λA g e=>ev A g e⟩
      case QN=>
       rintro R i ⟨⟨b,rfl,k⟩,kw,hf⟩;have hm:=k.jz;try dsimp only
       refine bb (fN B ?_);have al:=tb 1 k.perm k.aG k.cn (λf d H v=>by
        rw[jj B,cK]at d;let⟨@A,I,U,rfl⟩:=jd v;rw[d];exact hf A I U)
       rw[jj B]at al;rw[oS];refine ky (λfd=>a_<|iT.a S<|r1 al.1 al.2.1 al.2.2 fd d9) λfd=>?_;have Q:gZ M it u w ((b++[u.getD a 0]).map<|a8 it).toArray (a+1) i:=⟨_,rfl,al.1,al.2.1,al.2.2,⋯,hm⟩;exact kp (λ_=>a_ (iT.b S Q ⋯)) λ_=>a_ (qt.k S Q ⋯)
end
section
variable{Qy:bz}{l:bc}{O:bl}{Qt:ae->ah->Prop}{QP:gf}{it:Array ba}{M:Nat->Int}{r:Nat}{h:ah}
def DJ:Array ba->Array ba->StateT br dD (Array ba):=(sortPriv% PySem.Builtin.mergeHi)
variable{x:List Nat}{a i:Nat}
def vf(b:a<=i)(c:i<=x.length):x.drop a=(x.take i).drop a++x.drop i:=by
 have d:x.drop a=(x.take i++x.drop i).drop a:=by rw[e6]
 rw[d,List.drop_append_of_le_length (by rw[fG];lia)]
def Jr(b:a<=i):x.take a++(x.take i).drop a=x.take i:=by
 have:=e6 a (x.take i)
 rwa [sJ,n8 b]at this
variable{u w k:List Nat}{z B:Nat}
def sD(n:Nat)(e:n<=z)(h:z<=u.length)(perm:k.Perm (u.drop z++w.drop B))(aG:cc M (u.take z++k))(cn:cc M (w.take B++k))(c:∀f∈(u.take z).drop n,∀H∈w.take B,M H<=M f):
  ((u.take z).drop n++k).Perm (u.drop n++w.drop B)/\cc M (u.take n++((u.take z).drop n++k))/\cc M (w.take B++((u.take z).drop n++k)):=by
 refine⟨?_,?_,?_⟩
 ·rw[vf e h,bA];exact dT _ perm
 ·rw[<-bA,Jr e];exact aG
 ·have g:=e7.mp aG;have d:=e7.mp cn;refine e7.mpr ⟨d.1,e7.mpr ⟨g.1.sublist<|uw _ _,d.2.1,λf b H a=>g.2.2 f (l_ b) H a⟩,λf b H a=>?_⟩;rcases dG.mp a with a|a
  ·exact c H a f b
  ·exact d.2.2 f b H a
def yf(n:Nat)(a:n<=B)(b:B<=w.length)(perm:k.Perm (u.drop z++w.drop B))(aG:cc M (u.take z++k))(cn:cc M (w.take B++k))(c:∀f∈(w.take B).drop n,∀H∈u.take z,M H<=M f):
  ((w.take B).drop n++k).Perm (u.drop z++w.drop n)/\cc M (u.take z++((w.take B).drop n++k))/\cc M (w.take n++((w.take B).drop n++k)):=by
 have:=sD (u:=w) (w:=u) n a b (perm.trans c6) cn aG c;exact⟨this.1.trans c6,this.2.2,this.2.1⟩
def kE(b:0<a)(c:a<=x.length):(x.take a).drop (a-1)=[x.getD (a-1) 0]:=by
 rw[pV,show a-(a-1)=1 by lia];exact jj ⋯
variable{H:Nat}
def kH(c:H∈x.take a):∃i,i<a/\i<x.length/\H=x.getD i 0:=by
 have:=nV (a:=0) (n:=a) (H:=H) (x:=x) (by rwa [kh]);let⟨@i,g,e,d⟩:=this;exact⟨i,g,⋯,by rw[d];congr 1;lia⟩
variable{n:Nat}
def yV(c:H∈(x.take n).drop a):∃i,a<=i/\i<n/\i<x.length/\H=x.getD i 0:=by
 rw[pV]at c;let⟨@i,g,e,d⟩:=nV c;exact⟨a+i,⋯,⋯,e,d⟩
def nR(c:cc M (x.take a++k))(b:i<=n)(d:n<a)(e:n<x.length):M (x.getD i 0)<=M (x.getD n 0):=by
 have:=nq (e7.mp c).1 (a:=i) (i:=n) b (by rw[fG];lia);simpa [List.getD,mK,show i<a by lia,d] using this
def pQ(perm:k.Perm (u.drop z++w.drop B))(aG:cc M (u.take z++k))(cn:cc M (w.take B++k))(a:z=0\/B=0):
  f_ M it u w ((u.map<|a8 it).toArray.extract 0 z++(w.map<|a8 it).toArray.extract 0 B++(k.reverse.map<|a8 it).toArray.reverse):=by
 refine⟨u.take z++w.take B++k,?_,?_,?_⟩
 ·apply jW;simp[iU]
 ·refine (dT _ perm).trans ?_;have:(u.take z++w.take B++(u.drop z++w.drop B)).Perm ((u.take z++u.drop z)++(w.take B++w.drop B)):=by
   rw[bA,bA];refine dT _ ?_;rw[<-bA,<-bA];exact e8 _ c6
  rw[e6,e6]at this;exact this
 ·rcases a with d|d
  ·rw[d,rQ,uX];exact cn
  ·rw[d,rQ,cC];exact aG
def uG(perm:k.Perm (u.drop z++w.drop B))(aG:cc M (u.take z++k))(cn:cc M (w.take B++k))(c:B=1)(first:∀f∈u,M (w.getD 0 0)<=M f):
  f_ M it u w ((w.map<|a8 it).toArray.extract 0 B++(u.map<|a8 it).toArray.extract 0 z++(k.reverse.map<|a8 it).toArray.reverse):=by
 refine⟨w.take B++u.take z++k,?_,?_,?_⟩
 ·apply jW;simp[iU]
 ·refine (dT _ perm).trans ?_;have:(w.take B++u.take z++(u.drop z++w.drop B)).Perm ((u.take z++u.drop z)++(w.take B++w.drop B)):=by
   rw[bA,<-bA (u.take z),<-bA (u.take z++u.drop z)];rw[<-bA (w.take B)];exact e8 _ c6
  rw[e6,e6]at this;exact this
 ·rw[bA];refine e7.mpr ⟨(e7.mp cn).1,aG,λf b H a=>?_⟩;rcases dG.mp a with a|a
  ·let⟨@i,t,E,rfl⟩:=kH b;have:i=0:=⋯
   rw[this];exact first H (m7 a)
  ·exact (e7.mp cn).2.2 f b H a
def ou(k:List Nat)(H:Nat):(k.reverse.map<|a8 it).toArray.push (a8 it H)=(([H]++k).reverse.map<|a8 it).toArray:=by simp
def DV(k x:List Nat)(a n:Nat):(k.reverse.map<|a8 it).toArray++((x.map<|a8 it).toArray.extract a n).reverse=(((x.take n).drop a++k).reverse.map<|a8 it).toArray:=by
 apply jW;simp[iP,iU,pV]
structure OA(M:Nat->Int)(u w:List Nat)(k:List Nat)(z B:Nat):Prop where
 perm:k.Perm (u.drop z++w.drop B)
 aG:cc M (u.take z++k)
 cn:cc M (w.take B++k)
 bL:0<z
 jz:1<B
 uV:z<=u.length
 uP:B<=w.length
def g_(M:Nat->Int)(it:Array ba)(u w:List Nat)(out:Array ba)(z B:Nat):Prop:=(∃k:List Nat,out=(k.reverse.map<|a8 it).toArray/\OA M u w k z B)
end
section
variable{Qy:bz}{l:bc}{O:bl}{Qt:ae->ah->Prop}{QP:gf}{it:Array ba}{M:Nat->Int}{r:Nat}{h:ah}
def p7(M:Nat->Int)(it:Array ba)(u w:List Nat)(N:br)(h:ah): Option (Array ba)×Nat×Nat×Array ba×Nat->br->ah->Prop:=(λm b Qp=>h=Qp/\c5 N b/\∃a q p s L,m=(Z a,q,p,s,L)/\f_ M it u w a)
def ri(M:Nat->Int)(it:Array ba)(u w:List Nat)(N:br)(h:ah)(f:Nat):Option (Array ba)×Nat×Nat×Array ba×Nat->br->ah->Prop:=(λm a Qp=>h=Qp/\c5 N a/\∃z B o L,m=(Y,z,B,o,L)/\g_ M it u w o z B/\z+B+f+1<=u.length+w.length)
def jL(M:Nat->Int)(it:Array ba)(u w:List Nat)(N:br)(h:ah)(f:Nat):Option (Array ba)×Nat×Nat×Array ba×Nat×Nat->br->ah->Prop:=(λm c Qp=>h=Qp/\c5 N c/\((∃b q p s ac a,m=(Z b,q,p,s,ac,a)/\f_ M it u w b)\/∃z B o ac a,m=(Y,z,B,o,ac,a)/\g_ M it u w o z B/\z+B+f+2<=u.length+w.length))
def oT(M:Nat->Int)(it:Array ba)(u w:List Nat)(N:br)(h:ah)(f H:Nat):Option (Array ba)×Nat×Nat×Array ba×Nat×Nat->br->ah->Prop:=(λm a Qp=>h=Qp/\c5 N a/\∃z B o ac b,m=(Y,z,B,o,ac,b)/\g_ M it u w o z B/\z+B+f+1+H<=u.length+w.length)
def iM(M:Nat->Int)(it:Array ba)(u w:List Nat)(N:br)(h:ah)(f:Nat):Option (Array ba)×Nat×Nat×Array ba×Nat×Nat×Nat->br->ah->Prop:=(λm c Qp=>h=Qp/\c5 N c/\((∃b q p s L ac a,m=(Z b,q,p,s,L,ac,a)/\f_ M it u w b)\/∃z B o L ac a,m=(Y,z,B,o,L,ac,a)/\g_ M it u w o z B/\z+B+f+2<=u.length+w.length))
def qr(M:Nat->Int)(it:Array ba)(u w:List Nat)(N:br)(h:ah)(f H:Nat):Option (Array ba)×Nat×Nat×Array ba×Nat×Nat×Nat->br->ah->Prop:=(λm a Qp=>h=Qp/\c5 N a/\∃z B o L ac b,m=(Y,z,B,o,L,ac,b)/\g_ M it u w o z B/\z+B+f+2<=u.length+w.length)
def p7.a{M:Nat->Int}{it:Array ba}{u w:List Nat}{N b:br}{h:ah}{out:Array ba}{q p:Nat}{s:Array ba}{L:Nat}(c:c5 N b)(k:f_ M it u w out):p7 M it u w N h (Z out,q,p,s,L) b h:=⟨rfl,c,_,_,_,_,_,rfl,k⟩
def ri.k{M:Nat->Int}{it:Array ba}{u w:List Nat}{N a:br}{h:ah}{f:Nat}{z B:Nat}{o:Array ba}{L:Nat}(c:c5 N a)(i:g_ M it u w o z B)(d:z+B+f+1<=u.length+w.length):ri M it u w N h f (Y,z,B,o,L) a h:=⟨rfl,c,_,_,_,_,rfl,i,d⟩
def jL.a{M:Nat->Int}{it:Array ba}{u w:List Nat}{N b:br}{h:ah}{f:Nat}{out:Array ba}{q p:Nat}{s:Array ba}{L d:Nat}(c:c5 N b)(k:f_ M it u w out):jL M it u w N h f (Z out,q,p,s,L,d) b h:=⟨rfl,c,.inl ⟨_,_,_,_,_,_,rfl,k⟩⟩
def jL.b{M:Nat->Int}{it:Array ba}{u w:List Nat}{N a:br}{h:ah}{f:Nat}{z B:Nat}{o:Array ba}{L g:Nat}(c:c5 N a)(i:g_ M it u w o z B)(d:z+B+f+2<=u.length+w.length):jL M it u w N h f (Y,z,B,o,L,g) a h:=⟨rfl,c,.inr ⟨_,_,_,_,_,rfl,i,d⟩⟩
def oT.k{M:Nat->Int}{it:Array ba}{u w:List Nat}{N a:br}{h:ah}{f H:Nat}{z B:Nat}{o:Array ba}{L b:Nat}(c:c5 N a)(i:g_ M it u w o z B)(d:z+B+f+1+H<=u.length+w.length):oT M it u w N h f H (Y,z,B,o,L,b) a h:=⟨rfl,c,_,_,_,_,_,rfl,i,d⟩
def iM.a{M:Nat->Int}{it:Array ba}{u w:List Nat}{N b:br}{h:ah}{f:Nat}{out:Array ba}{q p:Nat}{s:Array ba}{L d e:Nat}(c:c5 N b)(k:f_ M it u w out):iM M it u w N h f (Z out,q,p,s,L,d,e) b h:=⟨rfl,c,.inl ⟨_,_,_,_,_,_,_,rfl,k⟩⟩
def iM.b{M:Nat->Int}{it:Array ba}{u w:List Nat}{N a:br}{h:ah}{f:Nat}{z B:Nat}{o:Array ba}{L g j:Nat}(c:c5 N a)(i:g_ M it u w o z B)(d:z+B+f+2<=u.length+w.length):iM M it u w N h f (Y,z,B,o,L,g,j) a h:=⟨rfl,c,.inr ⟨_,_,_,_,_,_,rfl,i,d⟩⟩
def qr.k{M:Nat->Int}{it:Array ba}{u w:List Nat}{N a:br}{h:ah}{f H:Nat}{z B:Nat}{o:Array ba}{L b e:Nat}(c:c5 N a)(i:g_ M it u w o z B)(d:z+B+f+2<=u.length+w.length):qr M it u w N h f H (Y,z,B,o,L,b,e) a h:=⟨rfl,c,_,_,_,_,_,_,rfl,i,d⟩
def k3{ay:gT}{O:bl}{Qt:ae->ah->Prop}{B QT:Type}{g e:Nat}{f H:StateT B dD QT}{D:QT->B->ah->Prop}{N:B}{h:ah}(bf:g=e->kasC ay O Qt f D N h)(a:¬ g=e->kasC ay O Qt H D N h):kasC ay O Qt (if (g==e)=X then f else H) D N h:=kp (λc=>bf ⇑c) λc=>a ⇑c
def Jx(ca:fz r M (eQ Qy l O QP it) h){u w:List Nat}(cd:∀f∈u,f<r)(ce:∀f∈w,f<r)(ga:cc M u)(ge:cc M w)(gl:0<u.length)(t:0<w.length)(first:∀f∈u,M (w.getD 0 0)<=M f)(d9:∀f∈w,M f<=M (u.getD (u.length-1) 0)){N:br}(dL:kindOf N=QP){D:Array ba->br->ah->Prop}(c:∀out x,f_ M it u w out->c5 N x->D out x h):
  kasC (aO Qy l) O Qt (DJ (u.map<|a8 it).toArray (w.map<|a8 it).toArray) D N h:=by
 have bn:(List.map (a8 it) u).toArray.size=u.length:=by simp
 have bs:(List.map (a8 it) w).toArray.size=w.length:=by simp
 have aZ:=kE gl (a5 _);rw[oO]at aZ;have ch:[u.getD (u.length-1) 0].Perm (u.drop (u.length-1)++w.drop w.length):=by
  rw[aZ,xn];exact List.Perm.refl _
 have ci:cc M (u.take (u.length-1)++[u.getD (u.length-1) 0]):=by
  rw[<-aZ,e6];exact ga
 have cl:cc M (w.take w.length++[u.getD (u.length-1) 0]):=e7.mpr ⟨by rw[oO];exact ge,eY _ _,λf d H v=>by
  rw[cK.mp v];exact d9 f (by rwa [oO]at d)⟩
 unfold DJ;with_unfolding_all refine bb (mw<|iJ ?_);refine bb (fN (show (List.map (a8 it) u).toArray.size-1<u.length by lia) ?_);refine k3 (λco=>a_ (c _ _ (by rw[bn]at co;rw[bn,bs];exact pQ ch ci cl (.inl co))<|c5.refl N)) λco=>?_;refine k3 (λcr=>a_ (c _ _ (by rw[bs]at cr;rw[bn,bs];exact uG ch ci cl cr first)<|c5.refl N)) λcr=>?_;refine bb (jx ?_);refine bb (g6 (a:=p7 M it u w N h) (fs (gm (ri M it u w N h) ?step _ 0 _ _ _ ?fin (ri.k (c5.refl N) (by rw[bn,bs];exact⟨_,rfl,ch,ci,cl,⋯,⋯,⋯,⋯⟩) ⋯))) ?after)
 case after=>
  rintro m x Qp ⟨rfl,Qx,ev,o,y,F,L,rfl,a1⟩;exact a_ (c _ _ a1 Qx)
 case fin=>
  rintro m x Qp ⟨rfl,Qx,z,B,o,L,rfl,⟨b,rfl,k⟩,d⟩;have:=k.bL;have:=k.jz;lia
 case step=>
  rintro f m x Qp ⟨rfl,Qx,z,B,o,L,rfl,G,d⟩;refine bb (g6 (a:=jL M it u w N h f)
   (fs (gm (oT M it u w N h f) ?go _ 0 _ _ _ ?gt (oT.k Qx G ⋯))) ?g1)
  case gt=>
   rintro m x Qp ⟨rfl,Qx,z,B,o,ac,al,rfl,G,d⟩;exact jL.b Qx G ⋯
  case go=>
   rintro H m x Qp ⟨rfl,Qx,z,B,o,ac,al,rfl,⟨b,rfl,k⟩,d⟩;have I:=k.bL;have cs:=k.jz;have E:=k.uV;have J:=k.uP;have bv:kindOf x=QP:=Qx.k.trans dL;have P:z-1<u.length:=⋯
   have am:B-1<w.length:=⋯
   have dV:M (w.getD (B-1) 0)<M (u.getD (z-1) 0)->_:=λa2=>by
    have:=sD (z-1) ⋯ E k.perm k.aG k.cn (λf d H v=>by
     rw[kE I E,cK]at d;let⟨@i,an,bd,rfl⟩:=kH v;have:=nR k.cn (show i<=B-1 by lia) ⋯ ⋯;rw[d];lia)
    rw[kE I E]at this;exact this
   have dg:¬ M (w.getD (B-1) 0)<M (u.getD (z-1) 0)->_:=λa2=>by
    have:=yf (B-1) ⋯ J k.perm k.aG k.cn (λf d H v=>by
     rw[kE ⋯ J,cK]at d;let⟨@i,an,bd,rfl⟩:=kH v;have:=nR k.aG (show i<=z-1 by lia) ⋯ ⋯;rw[d];lia)
    rw[kE ⋯ J]at this;exact this
   refine bb (fN am<|bb<|fN P<|bb<|rh ca (iK ce am) (iK cd P) bv ?_);refine kp (λa2=>?_) λa2=>?_
   ·have e:=dV ⇑a2;refine bb (fN P (k3 (λS=>a_ (jL.a Qx (by rw[ou];exact pQ e.1 e.2.1 e.2.2 (.inl S)))) λS=>?_));have T:g_ M it u w ((b.reverse.map<|a8 it).toArray.push<|a8 it<|u.getD (z-1) 0) (z-1) B:=⟨_,ou _ _,e.1,e.2.1,e.2.2,⋯,cs,⋯,J⟩;exact kp (λ_=>a_ (jL.b Qx T ⋯)) λ_=>a_ (oT.k Qx T ⋯)
   ·have e:=dg ⇑a2;refine bb (fN am (k3 (λS=>a_ (jL.a Qx (by rw[ou];exact uG e.1 e.2.1 e.2.2 S first))) λS=>?_));have T:g_ M it u w ((b.reverse.map<|a8 it).toArray.push<|a8 it<|w.getD (B-1) 0) z (B-1):=⟨_,ou _ _,e.1,e.2.1,e.2.2,I,⋯,E,⋯⟩;exact kp (λ_=>a_ (jL.b Qx T ⋯)) λ_=>a_ (oT.k Qx T ⋯)
  case g1=>
   rintro m x Qp ⟨rfl,Qx,⟨ev,o,y,F,ac,al,rfl,a1⟩|⟨z,B,o,ac,al,rfl,G,d⟩⟩
   ·exact a_ (p7.a Qx a1)
   ·refine bb (mw<|iJ ?_);refine bb (g6 (a:=iM M it u w N h f)
     (fs (gm (qr M it u w N h f) ?g2 _ 0 _ _ _ ?fin2 (qr.k Qx G ⋯))) ?g3)
    case fin2=>
     rintro m x Qp ⟨rfl,Qx,z,B,o,L,ac,al,rfl,G,d⟩;exact iM.b Qx G ⋯
    case g3=>
     rintro m x Qp ⟨rfl,Qx,⟨ev,o,y,F,L,ac,al,rfl,a1⟩|⟨z,B,o,L,ac,al,rfl,G,d⟩⟩
     ·exact a_ (p7.a Qx a1)
     ·refine bb (kg ?_);exact a_ (ri.k ⟨Qx.k,Qx.a,Qx.p,Qx.f⟩ G ⋯)
    case g2=>
     rintro H m x Qp ⟨rfl,Qx,z,B,o,L,ac,al,rfl,⟨b,ex,k⟩,d⟩;have I:=k.bL;have cs:=k.jz;have E:=k.uV;have J:=k.uP;have am:B-1<w.length:=⋯
     dsimp only;revert L;refine AA (λL=>L-1) ?P ?_
     case P=>exact λL=>rfl
     intro L;refine bb (Fb (s:=N) ⟨Qx.k,Qx.a,Qx.p,Qx.f⟩ λkw U=>?_);have bv:=U.k.trans dL;refine bb (fN am ?_);refine bb (wj ca (iK ce am) cd (QH:=0) (k:=z) (b:=z-1) ⋯ ⋯ (λa i g e m=>nR k.aG e ⋯ ⋯) bv ?_);intro n lc fd he;dsimp only;generalize lf:z-n=li;generalize be:o=R;generalize bi:z=a;have Qr:R=o/\a=z:=⟨be.symm,bi.symm⟩;clear be bi;revert R a;refine r6 (λR a=>R=o/\a=z) (λR a=>g_ M it u w R a B/\a<=z/\∀i,i<a->M (u.getD i 0)<=M (w.getD (B-1) 0)) ?QB ?f1 ?hf
     case f1=>
      rintro hm R a ⟨rfl,rfl⟩;exact⟨⟨b,ex,k⟩,a5 _,λi g=>fd i ⋯ ⋯⟩
     case hf=>
      rintro j _ R a ⟨rfl,rfl⟩;try dsimp only
      have as:=sD n ⋯ E k.perm k.aG k.cn (λf d H v=>by
       let⟨@i,hw,an,bd,rfl⟩:=yV d;let⟨@db,h0,ii,rfl⟩:=kH v;have:=he i ⋯ ⋯;have:=nR k.cn (show db<=B-1 by lia) ⋯ ⋯;lia)
      rw[ex,DV];refine k3 (λS=>a_<|iM.a U<|pQ as.1 as.2.1 as.2.2<|.inl S) λS=>?_;exact j _ _ ⟨⟨_,rfl,as.1,as.2.1,as.2.2,⋯,cs,⋯,J⟩,⋯,λi g=>fd i ⋯ ⋯⟩
     case QB=>
      rintro R a ⟨⟨b,rfl,k⟩,le,im⟩;have I:=k.bL;have E:=k.uV;have P:a-1<u.length:=⋯
      try dsimp only
      refine bb (fN am ?_);have Rf:=yf (B-1) ⋯ J k.perm k.aG k.cn (λf d H v=>by
       rw[kE ⋯ J,cK]at d;let⟨@i,an,bd,rfl⟩:=kH v;rw[d];exact im i an)
      rw[kE ⋯ J]at Rf;rw[ou];refine k3 (λfn=>a_<|iM.a U<|uG Rf.1 Rf.2.1 Rf.2.2 fn first) λfn=>?_;refine bb (fN P ?_);refine bb (uJ ca (iK cd P) ce (QH:=0) (k:=B-1) (b:=B-1-1) ⋯ ⋯ (λa i g e m=>nR Rf.2.2 e ⋯ ⋯) bv ?_);intro Q6 lm fr io;dsimp only;generalize [w.getD (B-1) 0]++b=ds at *;generalize ln:B-1=bm at *;generalize ls:bm-Q6=eL;generalize be:(List.map (a8 it) ds.reverse).toArray=R;generalize bi:bm=i;have Qr:R=(List.map (a8 it) ds.reverse).toArray/\i=bm:=⟨be.symm,bi.symm⟩;clear be bi;revert R i;refine r6 (λR i=>R=(List.map (a8 it) ds.reverse).toArray/\i=bm) (λR i=>g_ M it u w R a i/\i<=bm/\∀A,A<i->M (w.getD A 0)<M (u.getD (a-1) 0)) ?QN ?f2 ?jp
      case f2=>
       rintro hm R i ⟨rfl,rfl⟩;exact⟨⟨_,rfl,Rf.1,Rf.2.1,Rf.2.2,I,⋯,E,⋯⟩,a5 _,λA g=>fr A ⋯ ⋯⟩
      case jp=>
       rintro j _ R i ⟨rfl,rfl⟩;try dsimp only
       have Q:=yf Q6 ⋯ (show i<=w.length by lia) Rf.1 Rf.2.1 Rf.2.2 (λf d H v=>by
        let⟨@A,hw,an,bd,rfl⟩:=yV d;let⟨@db,h0,ii,rfl⟩:=kH v;have:=io A ⋯ ⋯;have:=nR Rf.2.1 (show db<=a-1 by lia) ⋯ ⋯;lia)
       rw[DV];refine k3 (λf0=>a_<|iM.a U<|uG Q.1 Q.2.1 Q.2.2 f0 first) λf0=>?_;refine k3 (λf4=>a_<|iM.a U<|pQ Q.1 Q.2.1 Q.2.2<|.inr f4) λf4=>?_;exact j _ _ ⟨⟨_,rfl,Q.1,Q.2.1,Q.2.2,I,⋯,E,⋯⟩,⋯,λA g=>fr A ⋯ ⋯⟩
      case QN=>
       rintro R i ⟨⟨b,rfl,k⟩,lv,kt⟩;try dsimp only
       refine bb (fN P ?_);have ap:=sD (a-1) ⋯ E k.perm k.aG k.cn (λf d H v=>by
        rw[kE I E,cK]at d;let⟨@A,an,bd,rfl⟩:=kH v;have:=kt A an;rw[d];lia)
       rw[kE I E]at ap;rw[ou];refine k3 (λf8=>a_<|iM.a U<|pQ ap.1 ap.2.1 ap.2.2<|.inl f8) λf8=>?_;have T:g_ M it u w (([u.getD (a-1) 0]++b).reverse.map<|a8 it).toArray (a-1) i:=⟨_,rfl,ap.1,ap.2.1,ap.2.2,⋯,k.jz,⋯,k.uP⟩;exact kp (λ_=>a_ (iM.b U T ⋯)) λ_=>a_ (qr.k U T ⋯)
def Gv{B:Type}{ay:gT}{D:PUnit->B->ah->Prop}{N a:B}{h:ah}(c:D ⟨⟩ a h):kasC ay O Qt (set a:StateT B dD PUnit) D N h:=by
 unfold kasC;rw[StateT.run_set];exact aS c
theorem wa{QT:Type}:∀(x:List QT) (b:List QT) (p e z:Nat),p+x.length<=b.length->p=z+e->((x.zipIdx e).foldl (λ(g:Array QT) (f:QT×Nat)=>g.setIfInBounds (z+f.2) f.1) b.toArray)=(b.take p++x++b.drop (p+x.length)).toArray
 |[],b,p,e,z,c,d=>by simp
 |f::x,b,p,e,z,c,d=>by
  rw[ey]at c;rw[yF,lb];dsimp only;rw[<-d,BQ,wa x (b.set p f) (p+1) (e+1) z (by rw[wk];lia) ⋯];congr 1;have h:(b.set p f).take (p+1)=b.take p++[f]:=by
   apply oe;intro a;rw[mK,List.getElem?_append,fG,mK,zA];by_cases t:a<p
   ·rw[aE ⋯,aK ⋯,aE ⋯,aE t]
   ·by_cases E:a=p
    ·subst E;rw[aE ⋯,aE rfl,aE ⋯,aK ⋯];simp[show a-min a b.length=0 by lia]
    ·rw[aK ⋯,aK ⋯];rw[r_];rw[fk];lia
  have i:(b.set p f).drop (p+1+x.length)=b.drop (p+(x.length+1)):=by
   apply oe;intro a;rw[lB,lB,zA,aK ⋯];congr 1;lia
  rw[h,i,ey,bA,bA,bA];rfl
def FP{c d b:List Nat}{n k:Nat}(p:cc M c)(q:cc M d)(u:0<d.length)(v:0<c.length)(t:∀f∈c.take n,M f<=M (d.getD 0 0))(r:∀f∈d.drop k,M (c.getD (c.length-1) 0)<=M f)(l:b.Perm (c.drop n++d.take k))(Ru:cc M b):cc M (c.take n++b++d.drop k)/\(c.take n++b++d.drop k).Perm (c++d):=by
 have m:∀H∈d,M (d.getD 0 0)<=M H:=λH g=>by
  let⟨@i,W,o,rfl⟩:=jd (a:=0) (x:=d) (by rwa [kh]);exact nq q (fo _) o
 have s:∀f∈c,M f<=M (c.getD (c.length-1) 0):=λf e=>by
  let⟨@i,W,o,rfl⟩:=jd (a:=0) (x:=c) (by rwa [kh]);exact nq p (by omega) (by omega)
 have h:cc M (c.take n++c.drop n):=by rwa [e6]
 have j:cc M (d.take k++d.drop k):=by rwa [e6]
 have h:=e7.mp h;have j:=e7.mp j;refine⟨e7.mpr ⟨e7.mpr ⟨h.1,Ru,λf e H g=>?_⟩,j.2.1,λf e H g=>?_⟩,?_⟩
 ·rcases dG.mp (l.mem_iff.mp g) with g|g
  ·exact h.2.2 f e H g
  ·exact xH (t f e) (m H<|m7 g)
 ·rcases dG.mp e with e|e
  ·exact xH (t f e) (m H<|l_ g)
  ·rcases dG.mp (l.mem_iff.mp e) with e|e
   ·exact xH (s f<|l_ e) (r H g)
   ·exact j.2.2 f e H g
 ·refine (e8 _<|dT _ l).trans ?_;rw[<-bA,e6,bA,e6]
def PF(T:fz r M (eQ Qy l O QP it) h){j:List Nat}(G:∀f∈j,f<r){a aG z B bn fr:Nat}{N:br}(A:PyProof.Rows.kindOf N=QP)(f0:arrOf N=(j.map<|a8 it).toArray)(U:ht N=Y)(S:(hv N)[a]?=Z (aG,z,bn))(L:(hv N)[a+1]?=Z (aG+z,B,fr))(f1:0<z)(bs:0<B)(gt:aG+z+B<=j.length)(E:cc M ((j.drop aG).take z))(F:cc M ((j.drop<|aG+z).take B)){D:Bool->br->ah->Prop}(c:∀mid u,PyProof.Rows.kindOf u=QP->ht u=Y->hv u=((hv N).setIfInBounds a (aG,z+B,bn)).eraseIdxIfInBounds (a+1)->mid.Perm ((j.drop aG).take<|z+B)->cc M mid->
   arrOf u=((j.take aG++mid++j.drop (aG+(z+B))).map<|a8 it).toArray->D X u h):
  kasC (aO Qy l) O Qt (sh a) D N h:=by
 have bv:((j.drop aG).take z).length=z:=by rw[fG,gc];lia
 have f2:((j.drop<|aG+z).take B).length=B:=by rw[fG,gc];lia
 have I:∀i,i<z->((j.drop aG).take z).getD i 0=j.getD (aG+i) 0:=λi L=>by simp[List.getD,mK,lB,L]
 have J:∀i,i<B->((j.drop<|aG+z).take B).getD i 0=j.getD (aG+z+i) 0:=λi L=>by simp[List.getD,mK,lB,L]
 have al:(j.drop aG).take z++(j.drop<|aG+z).take B=(j.drop aG).take (z+B):=by rw[<-mx,oJ]
 have ca:j.take aG++(j.drop aG).take (z+B)++j.drop (aG+(z+B))=j:=by rw[oJ,e6]
 have cd:∀a i,aG<=a->a<=i->i<aG+z->M (j.getD a 0)<=M (j.getD i 0):=λa i g e m=>by
  have:=nq E (a:=a-aG) (i:=i-aG) ⋯ ⋯
  rwa [I _ ⋯,I _ ⋯,show aG+(a-aG)=a by lia,show aG+(i-aG)=i by lia]at this
 have ce:∀a i,aG+z<=a->a<=i->i<aG+z+B->M (j.getD a 0)<=M (j.getD i 0):=λa i g e m=>by
  have:=nq F (a:=a-(aG+z)) (i:=i-(aG+z)) ⋯ ⋯
  rwa [J _ ⋯,J _ ⋯,show aG+z+(a-(aG+z))=a by lia,show aG+z+(i-(aG+z))=i by lia]at this
 have y:∀f∈(j.drop aG).take z,∃i,aG<=i/\i<aG+z/\f=j.getD i 0:=λf s=>by
  let⟨@i,P,v,rfl⟩:=nV s;exact⟨aG+i,⋯,⋯,rfl⟩
 have ch:∀f∈(j.drop<|aG+z).take B,∃i,aG+z<=i/\i<aG+z+B/\f=j.getD i 0:=λf s=>by
  let⟨@i,P,v,rfl⟩:=nV s;exact⟨aG+z+i,⋯,⋯,rfl⟩
 unfold sh;with_unfolding_all refine bb (jx ?_);simp only[S,L,f0];refine bb (Gv ?_);refine bb (fN (show aG+z<j.length by lia) ?_);refine bb (wj T (iK G (show aG+z<j.length by lia)) G (QH:=aG) (k:=z) (b:=0) ⋯ f1 cd (by exact A) ?_);intro n ci cl f8;dsimp only;by_cases co:z-n=0
 ·rw[aE ⇑co];refine a_ (c _ _ (by exact A) (by exact U) rfl (List.Perm.refl _) ?_ ?_)
  ·rw[<-al];refine e7.mpr ⟨E,F,λf s H am=>?_⟩;let⟨@i,v,ga,rfl⟩:=y f s;let⟨@an,cr,ap,rfl⟩:=ch H am;have:=cl i v ⋯;have:=ce (aG+z) an ⋯ cr ap;lia
  ·rw[ca]
 rw[aK ⇑co];rw[show aG+n+(z-n)-1=aG+z-1 by lia];refine bb (fN (show aG+z-1<j.length by lia) ?_);refine bb (uJ T (iK G (show aG+z-1<j.length by lia)) G (QH:=aG+z) (k:=B) (b:=B-1) ⋯ ⋯ ce (by exact A) ?_);intro o as ge cs;dsimp only;by_cases db:o=0
 ·rw[aE ⇑db];refine a_ (c _ _ (by exact A) (by exact U) rfl (List.Perm.refl _) ?_ ?_)
  ·rw[<-al];refine e7.mpr ⟨E,F,λf s H am=>?_⟩;let⟨@i,v,ga,rfl⟩:=y f s;let⟨@an,cr,ap,rfl⟩:=ch H am;have:=cs an ⋯ ap;have:=cd i (aG+z-1) v ⋯ ⋯;lia
  ·rw[ca]
 rw[aK ⇑db];have gl:(j.map<|a8 it).toArray.extract (aG+n) (aG+z)=((((j.drop aG).take z).drop n).map<|a8 it).toArray:=by
  apply jW;simp only[Fl,List.extract_eq_drop_take,iP,iU];rw[pV,mx,show aG+z-(aG+n)=z-n by lia]
 have go:(j.map<|a8 it).toArray.extract (aG+z) (aG+z+o)=((((j.drop<|aG+z).take B).take o).map<|a8 it).toArray:=by
  apply jW;simp only[Fl,List.extract_eq_drop_take,iP,iU];rw[sJ,n8 as,show aG+z+o-(aG+z)=o by lia]
 rw[gl,go];have t:∀f∈((j.drop aG).take z).take n,M f<=M (((j.drop<|aG+z).take B).getD 0 0):=λf s=>by
  rw[J 0 bs];let⟨@i,P,v,rfl⟩:=kH s;rw[I i ⋯];exact cl _ ⋯ ⋯
 have ds:∀f∈((j.drop<|aG+z).take B).drop o,M (((j.drop aG).take z).getD (((j.drop aG).take z).length-1) 0)<=M f:=λf s=>by
  rw[bv,I _ ⋯];let⟨@i,P,v,rfl⟩:=jd s;rw[J i ⋯,show aG+(z-1)=aG+z-1 by lia];exact cs _ ⋯ ⋯
 have dL:∀f∈((j.drop aG).take z).drop n,M ((((j.drop<|aG+z).take B).take o).getD 0 0)<=M f:=λf s=>by
  rw[show (((j.drop<|aG+z).take B).take o).getD 0 0=((j.drop<|aG+z).take B).getD 0 0 by simp only[List.getD,mK,aE (show 0<o by lia)],J 0 bs];let⟨@i,P,v,rfl⟩:=jd s;rw[I i ⋯];have:=f8 (aG+i) ⋯ ⋯;rw[DA];lia
 have bh:(((j.drop aG).take z).drop n).length=z-n:=by rw[gc,bv]
 have eq:(((j.drop<|aG+z).take B).take o).length=o:=by rw[fG,f2];lia
 have ev:∀f∈((j.drop<|aG+z).take B).take o,M f<=M ((((j.drop aG).take z).drop n).getD ((((j.drop aG).take z).drop n).length-1) 0):=λf s=>by
  rw[bh,show (((j.drop aG).take z).drop n).getD (z-n-1) 0=((j.drop aG).take z).getD (z-1) 0 by simp only[List.getD,lB,show n+(z-n-1)=z-1 by lia],I _ ⋯,show aG+(z-1)=aG+z-1 by lia];let⟨@i,P,v,rfl⟩:=kH s;rw[J i ⋯];have:=ge (aG+z+i) ⋯ ⋯;lia
 have ex:∀f∈((j.drop aG).take z).drop n,f<r:=λf s=>G f (l_<|m7<|l_ s);have fd:∀f∈((j.drop<|aG+z).take B).take o,f<r:=λf s=>G f (l_<|m7<|m7 s);by_cases fn:z-n<=o
 ·rw[aE fn];refine bb (Nx T ex fd (E.sublist<|uw _ _) (F.sublist<|pf _ _) ⋯ ⋯ dL ev (by exact A) ?_);intro out u a1 w;let⟨@b,rfl,Q,a2⟩:=a1;have R:=FP (M:=M) E F ⋯ ⋯ t ds Q a2;refine bb (kg ?_);refine bb (jx ?_);refine a_ ?_;have d:ht u=Y:=w.f.trans U;show D (ht u).isNone _ h;rw[d];refine c (((j.drop aG).take z).take n++b++((j.drop<|aG+z).take B).drop o) _ (w.k.trans A) (by first|rfl|exact d) (by exact w.p) (by rw[<-al];exact R.2) R.1 ?_;have bd:arrOf u=(j.map<|a8 it).toArray:=w.a;have bo:b.length=z-n+o:=by rw[Q.length_eq,dx,bh,eq]
  have be:=wa (b.map<|a8 it) (j.map<|a8 it) (aG+n) 0 (aG+n) (by rw[bj,bj,bo];lia) rfl;show List.foldl (λg f=>g.setIfInBounds (aG+n+f.2) f.1) (arrOf u) (b.map<|a8 it).toArray.toList.zipIdx=_;rw[bd];refine be.trans ?_;rw[bj,bo,<-iU,<-iP,<-fb,<-fb];congr 2;have bi:j.take (aG+n)=j.take aG++((j.drop aG).take z).take n:=by
   rw[sJ,n8 ci,oJ]
  have bm:j.drop (aG+n+(z-n+o))=((j.drop<|aG+z).take B).drop o++j.drop (aG+(z+B)):=by
   have:=vf (x:=j.drop (aG+z)) (a:=o) (i:=B) as (by rw[gc];lia);rw[mx,mx]at this;rw[show aG+n+(z-n+o)=aG+z+o by lia,this,show aG+z+B=aG+(z+B) by lia]
  rw[bi,bm];simp only[bA]
 ·rw[aK fn];refine bb (Jx T ex fd (E.sublist<|uw _ _) (F.sublist<|pf _ _) ⋯ ⋯ dL ev (by exact A) ?_);intro out u a1 w;let⟨@b,rfl,Q,a2⟩:=a1;have R:=FP (M:=M) E F ⋯ ⋯ t ds Q a2;refine bb (kg ?_);refine bb (jx ?_);refine a_ ?_;have d:ht u=Y:=w.f.trans U;show D (ht u).isNone _ h;rw[d];refine c (((j.drop aG).take z).take n++b++((j.drop<|aG+z).take B).drop o) _ (w.k.trans A) (by first|rfl|exact d) (by exact w.p) (by rw[<-al];exact R.2) R.1 ?_;have bd:arrOf u=(j.map<|a8 it).toArray:=w.a;have bo:b.length=z-n+o:=by rw[Q.length_eq,dx,bh,eq]
  have be:=wa (b.map<|a8 it) (j.map<|a8 it) (aG+n) 0 (aG+n) (by rw[bj,bj,bo];lia) rfl;show List.foldl (λg f=>g.setIfInBounds (aG+n+f.2) f.1) (arrOf u) (b.map<|a8 it).toArray.toList.zipIdx=_;rw[bd];refine be.trans ?_;rw[bj,bo,<-iU,<-iP,<-fb,<-fb];congr 2;have bi:j.take (aG+n)=j.take aG++((j.drop aG).take z).take n:=by
   rw[sJ,n8 ci,oJ]
  have bm:j.drop (aG+n+(z-n+o))=((j.drop<|aG+z).take B).drop o++j.drop (aG+(z+B)):=by
   have:=vf (x:=j.drop (aG+z)) (a:=o) (i:=B) as (by rw[gc];lia);rw[mx,mx]at this;rw[show aG+n+(z-n+o)=aG+z+o by lia,this,show aG+z+B=aG+(z+B) by lia]
  rw[bi,bm];simp only[bA]
end
section
variable{Qy:bz}{l:bc}{O:bl}{Qt:ae->ah->Prop}{QP:gf}{it:Array ba}{M:Nat->Int}{r:Nat}{h:ah}{o:Array (Nat×Nat×Nat)}
structure eh(QP:gf)(it:Array ba)(o:Array (Nat×Nat×Nat))(N:br)(p:Array Nat):Prop where
 k:PyProof.Rows.kindOf N=QP
 a:arrOf N=p.map (a8 it)
 p:hv N=o
 f:ht N=Y
def rt(f:fz r M (eQ Qy l O QP it) h){q:Array Nat}(b:cP r q){a i:Nat}(S:a<r)(d:i<r){N:br}(j:eh QP it o N q){D:Option Bool->br->ah->Prop}(c:D (Z<|decide (a7 M q a<a7 M q i)) N h):
  kasC (aO Qy l) O Qt (nk a i) D N h:=by
 have e:∀a,a<r->(q.map<|a8 it)[a]?=Z (a8 it<|q.getD a 0):=λa S=>by
  have:a<q.size:=by rw[b.size];exact S
  simp[Array.getD,this]
 rw[ltAt'_eq];refine bb (jx ?_);rw[j.a];dsimp only;rw[uB,uB,e a S,e i d];refine bb (a_ ?_);refine bb (a_ ?_);exact rh f (b.lt S) (b.lt d) j.k c
variable{q:Array Nat}{N:br}
def sC(j:eh QP it o N q){a i:Nat}{D:Unit->br->ah->Prop}(c:∀b,eh QP it o b (lR q a i)->D () b h):kasC (aO Qy l) O Qt (pA a i) D N h:=by
 rw[reverseSlice'_eq];refine kg (c _ ⟨j.k,?_,j.p,j.f⟩);show mirror (arrOf N) a i ((i-a)/2)=_;rw[j.a];exact zV (a8 it) (λn=>a+n) (λn=>i-1-n) _ q
def Hq(j:eh QP it o N q){a i:Nat}{D:Unit->br->ah->Prop}(c:∀b,eh QP it o b (rq q a<|a-i)->D () b h):kasC (aO Qy l) O Qt (moveDown' a i) D N h:=by
 rw[moveDown'_eq];refine kg (c _ ⟨j.k,?_,j.p,j.f⟩);show rq (arrOf N) a (a-i)=_;rw[j.a];exact zV (a8 it) (λn=>a-n) (λn=>a-n-1) _ q
theorem q4{B Rk:Type}{ay:gT}{C:Nat->Rk->StateT B dD (ForInStep Rk)}{D:Rk->B->ah->Prop}(G:Nat->Rk->B->ah->Prop)(QO:Nat)(step:∀f m N Qp,f<QO->G f m N Qp->kasC ay O Qt (C f m) (λs b e=>match s with | .yield a=>G (f+1) a b e | .done a=>D a b e) N Qp):∀(k g:Nat) (m:Rk) (N:B) (Qp:ah),g+k<=QO->(∀m N Qp,G (g+k) m N Qp->D m N Qp)->G g m N Qp->
   kasC ay O Qt (forIn (range' g k) m C) D N Qp
 |0,g,m,N,Qp,i,h,c=>by
  show kasC ay O Qt (forIn ([]:List Nat) m C) D N Qp;exact kasC_nil (h m N Qp c)
 |k+1,g,m,N,Qp,i,h,c=>by
  show kasC ay O Qt (forIn (g::range' (g+1) k) m C) D N Qp;refine kasC_cons (gQ (step g m N Qp ⋯ c) (λs e T=>?_) λ_ W d=>d);let⟨s,b⟩:=s;cases s with
  |done a=>exact T
  |yield a=>exact q4 G QO step k (g+1) a b e ⋯ (λm N Qp S=>h m N Qp (by rw[show g+(k+1)=g+1+k by lia];exact S)) T
end
section
variable{Qy:bz}{l:bc}{O:bl}{Qt:ae->ah->Prop}{QP:gf}{it:Array ba}{M:Nat->Int}{r:Nat}{h:ah}{o:Array (Nat×Nat×Nat)}
def hg(M:Nat->Int)(q:Array Nat)(R k:Nat):Prop:=(∀a i,R<=a->a<=i->i<R+k->a7 M q a<=a7 M q i)
def EN{q:Array Nat}{R k:Nat}(c:∀i,R+1<=i->i<R+k->a7 M q (i-1)<=a7 M q i):hg M q R k:=by
 intro a i S b d;obtain⟨v,rfl⟩:∃v,i=a+v:=⟨i-a,⋯⟩;clear b;induction v with
 |zero=>exact jJ _
 |succ v f=>
  have g:=f ⋯;have e:=c (a+(v+1)) ⋯ d;rw[show a+(v+1)-1=a+v by lia]at e;lia
def Kd(al:fz r M (eQ Qy l O QP it) h){q:Array Nat}(am:cP r q){R k u:Nat}(bi:R+k<=r)(t:1<=u)(bm:u<=k)(up:hg M q R u){N:br}(j:eh QP it o N q){D:Bool->br->ah->Prop}(c:∀y b,cP r y->eh QP it o b y->(∀a,a<R->y[a]?=q[a]?)->hg M y R k->D X b h):
  kasC (aO Qy l) O Qt (binarySort' R k u) D N h:=by
 rw[binarySort'_eq];rw[show max u 1=u by lia];with_unfolding_all refine bb (g6 (a:=λm b Qp=>h=Qp/\m=(Y,())/\∃p,cP r p/\eh QP it o b p/\(∀a,a<R->p[a]?=q[a]?)/\hg M p R k)
  (fs (q4 (λf m b Qp=>h=Qp/\m=(Y,())/\1<=f/\∃p,cP r p/\eh QP it o b p/\(∀a,a<R->p[a]?=q[a]?)/\hg M p R f) k ?step _ _ _ _ _ ⋯ ?fin ⟨rfl,rfl,t,q,am,j,λ_ W=>rfl,up⟩)) ?after)
 case after=>
  rintro m b Qp ⟨rfl,rfl,p,A,B,C,z⟩;exact a_ (c p _ A B C z)
 case fin=>
  rintro m b Qp ⟨rfl,rfl,bn,p,A,B,C,z⟩;rw[show u+(k-u)=k by lia]at z;exact⟨rfl,rfl,p,A,B,C,z⟩
 case step=>
  rintro n m b Qp bs ⟨rfl,rfl,Q0,p,E,F,ap,up⟩;dsimp only;have as:∀a,R<=a->a<R+0->a7 M p a<=a7 M p (R+n):=λa g e=>⋯
  have a1:∀a,R+n<=a->a<R+n->a7 M p (R+n)<=a7 M p a:=λa g e=>⋯
  refine bb (g6 (a:=λm v Qp=>h=Qp/\b=v/\∃x s,m=(Y,x,s)/\x<=n/\(∀a,R<=a->a<R+x->a7 M p a<=a7 M p (R+n))/\(∀a,R+x<=a->a<R+n->a7 M p (R+n)<=a7 M p a))
   (fs (q4 (λf m v Qp=>h=Qp/\b=v/\∃x s,m=(Y,x,s)/\x<=s/\s<=n/\s-x<=n-f/\(∀a,R<=a->a<R+x->a7 M p a<=a7 M p (R+n))/\(∀a,R+s<=a->a<R+n->a7 M p (R+n)<=a7 M p a)) n ?s2 _ _ _ _ _ ⋯ ?f2 ⟨rfl,rfl,0,n,rfl,⋯,⋯,⋯,as,a1⟩)) ?a2)
  case f2=>
   rintro m v Qp ⟨rfl,rfl,x,s,rfl,dV,dg,qF,kY,k6⟩;exact⟨rfl,rfl,x,s,rfl,⋯,kY,λa f H=>k6 a ⋯ H⟩
  case s2=>
   rintro f m v Qp bv ⟨rfl,rfl,x,s,rfl,dV,dg,qF,kY,k6⟩;dsimp only;by_cases d:x >= s
   ·rw[aE d];exact a_ ⟨rfl,rfl,x,s,rfl,⋯,kY,λa f H=>k6 a ⋯ H⟩
   rw[aK d];have G:x<=(x+s)/2:=⋯
   have bd:(x+s)/2<s:=⋯
   have I:(x+s)/2-x<=n-(f+1):=⋯
   have J:s-((x+s)/2+1)<=n-(f+1):=⋯
   generalize (x+s)/2=mid at G bd I J ⊢;refine bb (rt al E ⋯ ⋯ F ?_);dsimp only;by_cases P:a7 M p (R+n)<a7 M p (R+mid)
   ·rw[aE ⇑P];refine a_ ⟨rfl,rfl,x,mid,rfl,G,⋯,I,kY,λa f H=>?_⟩;have:=up (R+mid) a ⋯ f H;lia
   ·rw[aK ⇑P];refine a_ ⟨rfl,rfl,mid+1,s,rfl,⋯,dg,J,λa f H=>?_,k6⟩;have:=up a (R+mid) f ⋯ ⋯;lia
  case a2=>
   rintro m v Qp ⟨rfl,rfl,x,s,rfl,dV,kY,k6⟩;dsimp only;refine bb (Hq F ?_);intro ca be;have L:∀a,(rq p (R+n)<|R+n-(R+x))[a]?=if a=R+x then p[R+n]? else if R+x<a/\a<=R+n then p[a-1]? else p[a]?:=λa=>by
    have:=getElem?_bubble (xs:=p) (src:=R+n) (by rw[E.size];lia) (R+n-(R+x)) ⋯ a
    rwa [show R+n-(R+n-(R+x))=R+x by lia]at this
   have aX:∀a,a7 M (rq p (R+n)<|R+n-(R+x)) a=if a=R+x then a7 M p (R+n) else if R+x<a/\a<=R+n then a7 M p (a-1) else a7 M p a:=λa=>by
    have L:=L a;by_cases d:a=R+x
    ·rw[aE d]at L ⊢;exact lM L
    ·rw[aK d]at L ⊢;by_cases Q:R+x<a/\a<=R+n
     ·rw[aE Q]at L ⊢;exact lM L
     ·rw[aK Q]at L ⊢;exact lM L
   refine a_ ⟨rfl,rfl,⋯,_,E.JI _ _,be,λa S=>by rw[L,aK ⋯,aK ⋯];exact ap a S,EN λi f H=>?_⟩;rw[aX,aX];by_cases T:i-1=R+x
   ·rw[aE T,aK ⋯,aE ⋯];exact k6 (i-1) ⋯ ⋯
   ·rw[aK T];by_cases U:i=R+x
    ·rw[aE U,aK ⋯];exact kY (i-1) ⋯ ⋯
    ·rw[aK U];by_cases ce:R+x<i-1
     ·rw[aE ⋯,aE ⋯];exact up _ _ ⋯ ⋯ ⋯
     ·rw[aK ⋯,aK ⋯];exact up _ _ ⋯ ⋯ ⋯
def d2(M:Nat->Int)(q:Array Nat):Nat->List (Nat×Nat×Nat)->Nat->Prop
 |g,[],e=>g=e
 |g,(f,x,_)::A,e=>f=g/\0<x/\hg M q f x/\d2 M q (g+x) A e
variable{q:Array Nat}
theorem d2.le:∀{A:List (Nat×Nat×Nat)}{g e:Nat},d2 M q g A e->g+A.length<=e
 |[],g,e,c=>by rw[show e=g from c.symm];exact a5 _
 | (f,x,_)::A,g,e,c=>by
  have:=c.2.2.2.le;have:=c.2.1;rw[ey];lia
theorem d2.congr{p:Array Nat}:∀{A:List (Nat×Nat×Nat)}{g e:Nat},d2 M q g A e->(∀a,g<=a->a<e->a7 M p a=a7 M q a)->d2 M p g A e
 |[],g,e,c,_=>c
 | (f,x,_)::A,g,e,c,L=>by
  have:=c.2.2.2.le;let@⟨rfl,E,b,d⟩:=c;refine⟨rfl,E,λa i S h j=>?_,d.congr λa g e=>L a ⋯ e⟩;rw[L a S ⋯,L i ⋯ ⋯];exact b a i S h j
theorem d2.app{q:Array Nat}:∀{A J:List (Nat×Nat×Nat)}{g e:Nat},d2 M q g (A++J) e↔∃m,d2 M q g A m/\d2 M q m J e
 |[],J,g,e=>⟨λc=>⟨g,rfl,c⟩,λ⟨m,d,c⟩=>by rw[show g=m from d];exact c⟩
 | (f,x,i)::A,J,g,e=>by
  show (f=g/\0<x/\hg M q f x/\d2 M q (g+x) (A++J) e)↔_;rw[d2.app];constructor
  ·rintro⟨t,E,a,m,b,h⟩;exact⟨m,⟨t,E,a,b⟩,h⟩
  ·rintro⟨m,⟨t,E,a,b⟩,h⟩;exact⟨t,E,a,m,b,h⟩
def Ma{QT:Type}{x:List QT}{a:Nat}(c:a+1<x.length):∃aZ f H bh,x=aZ++f::H::bh/\aZ.length=a:=by
 refine⟨x.take a,x[a]'⋯,x[a+1],x.drop<|a+2,?_,by rw[fG];lia⟩;have b:=iE (l:=x) (i:=a) ⋯;have d:=iE (l:=x) (i:=a+1) c;rw[<-d,<-b,e6]
def tf(x:List Nat)(a:Nat):a7 M x.toArray a=M (x.getD a 0):=by unfold a7;rw[ki]
def FC(L:fz r M (eQ Qy l O QP it) h){q:Array Nat}(A:cP r q){N:br}(j:eh QP it o N q){R a:Nat}(S:a+1<o.size)(Qu:d2 M q 0 o.toList R)(ci:R<=r){D:Bool->br->ah->Prop}(c:∀F s u,cP r s->eh QP it F u s->F.size+1=o.size->d2 M s 0 F.toList R->(∀a,R<=a->a7 M s a=a7 M q a)->D X u h):kasC (aO Qy l) O Qt (sh a) D N h:=by
 let⟨aZ,⟨aG,z,b⟩,⟨cn,B,v⟩,@bh,d,rfl⟩:=Ma (x:=o.toList) (a:=a) ⇑S;rw[d]at Qu;let⟨@m,P,rfl,Q,T,rfl,U,al,bS⟩:=d2.app.mp Qu;have dg:=bS.le;have w:o=(aZ++(aG,z,b)::(aG+z,B,v)::bh).toArray:=by rw[<-d]
 have am:q.size=r:=A.size;have an:∀f∈q.toList,f<r:=λf ap=>e0.mp (A.mem_iff.mp ap);have y:∀a,a7 M q a=M (q.toList.getD a 0):=λa=>tf q.toList a;have bo:q.toList.length=r:=by rw[dp,am]
 have G:∀g k,g+k<=r->hg M q g k->cc M ((q.toList.drop g).take k):=λg k cl c=>by
  refine mm.mpr λa i S as co=>?_;have a1:=S;have a2:=as;rw[fG,gc,bo]at a1 a2;have:=c (g+a) (g+i) ⋯ ⋯ ⋯;rw[y,y]at this;rw[tT,oG,tT,oG];rw[cx,cx,eb ⋯,eb ⋯]at this;exact this
 refine PF L (j:=q.toList) an (a:=aZ.length) (aG:=aG) (z:=z) (B:=B) (bn:=b) (fr:=v) j.k (by rw[j.a];apply jW;simp) j.f (by rw[j.p,w];simp) (by rw[j.p,w];simp) Q U ⋯ (G _ _ ⋯ T) (G _ _ ⋯ al) ?_;intro mid u Q0 bd be H bi bm;have bn:mid.length=z+B:=by rw[H.length_eq,fG,gc,bo];lia
 have bs:q.toList.take aG++(q.toList.drop aG).take (z+B)++q.toList.drop (aG+(z+B))=q.toList:=by rw[oJ,e6]
 have bv:cP r (q.toList.take aG++mid++q.toList.drop (aG+(z+B))).toArray:=by
  show (q.toList.take aG++mid++q.toList.drop (aG+(z+B))).Perm (range r);refine List.Perm.trans (e8 _<|dT _ H) ?_;rw[bs];exact A
 have RA:(q.toList.take aG).length=aG:=by rw[fG,bo];lia
 have ca:∀a,a<aG->a7 M (q.toList.take aG++mid++q.toList.drop (aG+(z+B))).toArray a=a7 M q a:=λa S=>by
  rw[tf,y];congr 1;rw[cx,cx,bA,iA ⋯,mK,aE S]
 have I:∀a,aG+(z+B)<=a->a7 M (q.toList.take aG++mid++q.toList.drop (aG+(z+B))).toArray a=a7 M q a:=λa S=>by
  rw[tf,y];congr 1;rw[cx,cx,jw (by rw[dx];lia),lB,dx,RA,bn];congr 2;lia
 have J:∀a,aG<=a->a<aG+(z+B)->a7 M (q.toList.take aG++mid++q.toList.drop (aG+(z+B))).toArray a=M (mid.getD (a-aG) 0):=λa t E=>by
  rw[tf];congr 1;rw[cx,cx,bA,jw ⋯,RA,iA ⋯]
 have cd:((aZ++(aG,z,b)::(aG+z,B,v)::bh).toArray.setIfInBounds aZ.length (aG,z+B,b)).eraseIdxIfInBounds (aZ.length+1)=(aZ++(aG,z+B,b)::bh).toArray:=by
  rw[BQ,List.set_append_right _ _<|a5 _,ur,List.set_cons_zero];rw[wg,List.eraseIdx_append_of_length_le ⋯,show aZ.length+1-aZ.length=1 by lia];rfl
 refine c ((aZ++(aG,z+B,b)::bh).toArray) _ u bv ⟨Q0,by rw[bm];apply jW;simp,by rw[be,j.p,w,cd],bd⟩ (by rw[w];simp;lia) ?_ (λa S=>I a ⋯);have ce:d2 M q (aG+(z+B)) bh R:=by rw[<-qI];exact bS
 refine d2.app.mpr ⟨aG,P.congr λa W e=>ca a e,rfl,⋯,λa i t E ch=>?_,ce.congr λa g e=>I a g⟩
 ·rw[J a t ⋯,J i ⋯ ch];exact nq bi ⋯ ⋯
end
section
variable{Qy:bz}{l:bc}{O:bl}{Qt:ae->ah->Prop}{QP:gf}{it:Array ba}{M:Nat->Int}{r:Nat}{h:ah}{o:Array (Nat×Nat×Nat)}
variable{p:Array Nat}
def tZ(b:cP r p){a i:Nat}(c:i<=r)(n:Nat):(lR p a i)[n]?=if a<=n/\n<i then p[a+i-1-n]? else p[n]?:=by
 unfold lR;rw[getElem?_mirror_all (by rw[b.size];lia)]
def Lu(b:cP r p){a i:Nat}(e:i<=r)(d:∀n,a<=n->n<i->a7 M p n=a7 M p a)(n:Nat):a7 M (lR p a i) n=a7 M p n:=by
 by_cases c:a<=n/\n<i
 ·rw[lM (show (lR p a i)[n]?=p[a+i-1-n]? by rw[tZ b e,aE c]),d _ ⋯ ⋯,d n c.1 c.2]
 ·exact lM (by rw[tZ b e,aK c])
structure la(M:Nat->Int)(r R:Nat)(q p:Array Nat):Prop where
 lQ:cP r p
 be:∀a,a<R->p[a]?=q[a]?
 aX:∀n,a7 M p n=a7 M q n
def la.rev{R:Nat}{q:Array Nat}(Qz:la M r R q p){a i:Nat}(S:R<=a)(b:i<=r)(d:∀n,a<=n->n<i->a7 M q n=a7 M q a):la M r R q (lR p a i):=
 ⟨Qz.lQ.rev a i,λn c=>by rw[tZ Qz.lQ b,aK ⋯];exact Qz.be n c,λn=>by
  rw[Lu Qz.lQ b (λn g e=>by rw[Qz.aX,Qz.aX];exact d n g e)];exact Qz.aX n⟩
theorem Fo{C:Nat->Int}{g e:Nat}(c:∀i,g+1<=i->i<e->C i=C (i-1)):∀v,g+v<e->C (g+v)=C g
 |0,_=>rfl
 |v+1,a=>(c (g+(v+1)) ⋯ a).trans (Fo c v ⋯)
def zb(q:fz r M (eQ Qy l O QP it) h){R a:Nat}(x:R+a<=r){p:Array Nat}{e:br}{g:Nat}(t:cP r p)(QB:eh QP it o e p)(y:1<=g)(z:g<=a)(u:∀i,R+1<=i->i<R+g->a7 M p (i-1)<=a7 M p i):
   kasC (aO Qy l) O Qt (forIn [g:a] ((Y:Option (Option Nat)),g) λf m=>nk (R+m.2) (R+m.2-1) >>= λs=>match s with
    |some v=>if v=X then pure (ForInStep.done (Y,m.2)) else pure (ForInStep.yield (Y,m.2+1))
    |f=>pure<|ForInStep.done (Z Y,m.2))
    (λm b Qp=>h=Qp/\e=b/\∃k,m=(Y,k)/\g<=k/\k<=a/\(∀i,R+1<=i->i<R+k->a7 M p (i-1)<=a7 M p i)/\(k=a\/a7 M p (R+k)<a7 M p (R+k-1))) e h:=by
 refine fs (q4 (λf m b Qp=>h=Qp/\e=b/\m=(Y,f)/\g<=f/\∀i,R+1<=i->i<R+f->a7 M p (i-1)<=a7 M p i) a ?_ _ _ _ _ _ ⋯ ?_ ⟨rfl,rfl,rfl,a5 _,u⟩)
 ·rintro f m b Qp A ⟨rfl,rfl,rfl,n,c⟩;dsimp only;refine bb (rt q t ⋯ ⋯ QB ?_);dsimp only;by_cases j:a7 M p (R+f)<a7 M p (R+f-1)
  ·rw[aE ⇑j];exact a_ ⟨rfl,rfl,f,rfl,n,⋯,c,.inr j⟩
  ·rw[aK ⇑j];refine a_ ⟨rfl,rfl,rfl,⋯,λi w B=>?_⟩;by_cases d:i=R+f
   ·subst d;lia
   ·exact c i w ⋯
 ·rintro m b Qp ⟨rfl,rfl,rfl,n,c⟩;rw[show g+(a-g)=a by lia]at c ⊢;exact⟨rfl,rfl,a,rfl,⋯,a5 _,c,.inl rfl⟩
def th(R a k:Nat): StateT br dD (Option Nat):=(pA R (R+k) >>= λ_ => (forIn [k:a] ((Y:Option (Option Nat)),k) λf m => nk (R+m.2) (R+m.2-1) >>= λs => match s with
    |some b => if b=X then pure (ForInStep.done (Y,m.2)) else pure (ForInStep.yield (Y,m.2+1))
    |f => pure<|ForInStep.done (Z Y,m.2)) >>= λm => match m.1 with
    |some s => pure s
    |none => pure (Z m.2))
def Ep(R f:Nat)(m:Option (Option Nat)×Nat×Nat):StateT br dD (ForInStep<|Option (Option Nat)×Nat×Nat):=(nk (R+m.2.1) (R+m.2.1-1) >>= λs=>match s with
 |some a=>if a=X then (if m.2.2>0 then pA (R+m.2.1-(m.2.2+1)) (R+m.2.1) >>= λ_=>pure (.yield (Y,m.2.1+1,0)) else pure (.yield (Y,m.2.1+1,0)))
  else nk (R+m.2.1-1) (R+m.2.1) >>= λs=>match s with
   |some b=>if b=X then pure (.done (Y,m.2.1,m.2.2)) else pure (.yield (Y,m.2.1+1,m.2.2+1))
   |f=>pure (.done (Z Y,m.2.1,m.2.2))
 |f=>pure (.done (Z Y,m.2.1,m.2.2)))
def tB(R a k:Nat):StateT br dD (Option Nat):=(liftM (PySem.rule "list.sort.descending-run") >>= λ_=>forIn [k+1:a] ((Y:Option (Option Nat)),k+1,0) (Ep R) >>= λm=>match m.1 with
 |some s=>pure s
 |none=>if m.2.2>0 then pA (R+m.2.1-(m.2.2+1)) (R+m.2.1) >>= λ_=>th R a m.2.1 else th R a m.2.1)
def Bm(n:fz r M (eQ Qy l O QP it) h){R d k:Nat}(s:R+d<=r){q p:Array Nat}{N:br}(Qz:la M r R q p)(j:eh QP it o N p)(t:1<=k)(u:k<=d)(v:∀i,R+1<=i->i<R+k->a7 M q i<=a7 M q (i-1)){D:Option Nat->br->ah->Prop}(c:∀k b f,1<=k->k<=d->cP r b->eh QP it o f b->(∀a,a<R->b[a]?=q[a]?)->(∀i,R+1<=i->i<R+k->a7 M b (i-1)<=a7 M b i)->D (Z k) f h):kasC (aO Qy l) O Qt (th R d k) D N h:=by
 unfold th;refine bb (sC j λz QN=>?_);have L:=tZ Qz.lQ (a:=R) (i:=R+k) ⋯;have aX:∀a,R<=a->a<R+k->a7 M (lR p R<|R+k) a=a7 M q (R+(R+k)-1-a):=λa g e=>(lM (by rw[L,aE ⟨g,e⟩])).trans (Qz.aX _);refine bb (g6 (zb n s (Qz.lQ.rev R<|R+k) QN t u λi A B=>?_) ?_)
 ·rw[aX _ ⋯ ⋯,aX _ ⋯ ⋯];have:=v (R+(R+k)-1-(i-1)) ⋯ ⋯;rw[show R+(R+k)-1-(i-1)-1=R+(R+k)-1-i by lia]at this;exact this
 ·rintro m f Qp ⟨rfl,rfl,w,rfl,C,x,y,E⟩;dsimp only;exact a_ (c w _ _ ⋯ x (Qz.lQ.rev R<|R+k) QN (λa S=>by rw[L,aK ⋯];exact Qz.be a S) y)
def FA(B:fz r M (eQ Qy l O QP it) h){R t k:Nat}(I:R+t<=r){q p:Array Nat}{N:br}(Qz:la M r R q p)(j:eh QP it o N p)(am:1<=k)(an:k<t)(S:∀i,R+1<=i->i<R+(k+1)->a7 M q i<=a7 M q (i-1)){D:Option Nat->br->ah->Prop}(c:∀k A u,1<=k->k<=t->cP r A->eh QP it o u A->(∀a,a<R->A[a]?=q[a]?)->(∀i,R+1<=i->i<R+k->a7 M A (i-1)<=a7 M A i)->D (Z k) u h):kasC (aO Qy l) O Qt (tB R t k) D N h:=by
 have aR:∀{f v:Nat},v+1<=f->(∀i,R+f-v<=i->i<R+f->a7 M q i=a7 M q (i-1))->∀n,R+f-(v+1)<=n->n<R+f->a7 M q n=a7 M q (R+f-(v+1)):=λ{f v} y d n g e=>by
  have:=Fo (C:=a7 M q) (g:=R+f-(v+1)) (e:=R+f) (λi f H=>d i ⋯ H) (n-(R+f-(v+1))) ⋯
  rwa [show R+f-(v+1)+(n-(R+f-(v+1)))=n by lia]at this
 unfold tB;refine bb (mw<|iJ ?_);refine bb (g6 (a:=λm u Qp=>h=Qp/\∃s f v,m=(Y,f,v)/\eh QP it o u s/\la M r R q s/\k+1<=f/\f<=t/\v+1<=f/\(∀i,R+1<=i->i<R+f->a7 M q i<=a7 M q (i-1))/\∀i,R+f-v<=i->i<R+f->a7 M q i=a7 M q (i-1))
  (fs (q4 (λf m u Qp=>h=Qp/\∃s v,m=(Y,f,v)/\eh QP it o u s/\la M r R q s/\k+1<=f/\v+1<=f/\(∀i,R+1<=i->i<R+f->a7 M q i<=a7 M q (i-1))/\∀i,R+f-v<=i->i<R+f->a7 M q i=a7 M q (i-1)) t ?Q_ _ _ _ _ _ ⋯ ?Rb ⟨rfl,p,0,rfl,j,Qz,a5 _,⋯,S,λi g e=>⋯⟩)) ?T)
 case Q_=>
  rintro f m u Qp as ⟨rfl,s,v,rfl,F,b,E,z,w,x⟩;unfold Ep;dsimp only;refine bb (rt B b.lQ ⋯ ⋯ F ?_);dsimp only;rw[b.aX,b.aX];by_cases J:a7 M q (R+f)<a7 M q (R+f-1)
  ·rw[aE ⇑J];have L:∀i,R+1<=i->i<R+(f+1)->a7 M q i<=a7 M q (i-1):=λi G U=>by
    by_cases d:i=R+f
    ·subst d;lia
    ·exact w i G ⋯
   by_cases y:v>0
   ·rw[aE y];refine bb (sC F λal QN=>?_);exact a_ ⟨rfl,_,0,rfl,QN,b.rev ⋯ ⋯<|aR z x,⋯,⋯,L,λi g e=>⋯⟩
   ·rw[aK y];exact a_ ⟨rfl,s,0,rfl,F,b,⋯,⋯,L,λi g e=>⋯⟩
  ·rw[aK ⇑J];refine bb (rt B b.lQ ⋯ ⋯ F ?_);dsimp only;rw[b.aX,b.aX];by_cases P:a7 M q (R+f-1)<a7 M q (R+f)
   ·rw[aE ⇑P];exact a_ ⟨rfl,s,f,v,rfl,F,b,E,⋯,z,w,x⟩
   ·rw[aK ⇑P];refine a_ ⟨rfl,s,v+1,rfl,F,b,⋯,⋯,λi G U=>?_,λi g e=>?_⟩
    ·by_cases d:i=R+f
     ·subst d;lia
     ·exact w i G ⋯
    ·by_cases d:i=R+f
     ·subst d;lia
     ·exact x i ⋯ ⋯
 case Rb=>
  rintro m u Qp ⟨rfl,s,v,rfl,F,b,E,z,w,x⟩;rw[show k+1+(t-(k+1))=t by lia] at *;exact⟨rfl,s,t,v,rfl,F,b,E,a5 _,z,w,x⟩
 case T=>
  rintro m u Qp ⟨rfl,s,f,v,rfl,F,b,E,Q,z,w,x⟩;dsimp only;by_cases y:v>0
  ·rw[aE y];refine bb (sC F λal QN=>?_);exact Bm B I (b.rev ⋯ ⋯<|aR z x) QN ⋯ Q w c
  ·rw[aK y];exact Bm B I b F ⋯ Q w c
def Aa(R a:Nat): StateT br dD (Option Nat):=((forIn [1:a] ((Y:Option (Option Nat)),1) λf m => nk (R+m.2) (R+m.2-1) >>= λs => match s with
    |some b => if b=X then pure (ForInStep.done (Y,m.2)) else pure (ForInStep.yield (Y,m.2+1))
    |f => pure<|ForInStep.done (Z Y,m.2)) >>= λm => match m.1 with
    |some s => pure s
    |none => if (m.2==a)=X then pure (Z m.2) else if m.2>1 then nk R (R+m.2-1) >>= λs => match s with
      |some c => if c=X then pure (Z m.2) else pA R (R+m.2) >>= λ_ => tB R a m.2
      |f => pure Y
      else tB R a m.2)
def Ke(R a:Nat):countRun' R a=Aa R a:=by
 kernel_rfl
def Mw(s:fz r M (eQ Qy l O QP it) h){q:Array Nat}(b:cP r q){R f:Nat}(t:1<=f)(w:R+f<=r){N:br}(j:eh QP it o N q){D:Option Nat->br->ah->Prop}(c:∀k p x,1<=k->k<=f->cP r p->eh QP it o x p->(∀a,a<R->p[a]?=q[a]?)->(∀i,R+1<=i->i<R+k->a7 M p (i-1)<=a7 M p i)->D (Z k) x h):
  kasC (aO Qy l) O Qt (countRun' R f) D N h:=by
 rw[Ke];unfold Aa;have C:la M r R q q:=⟨b,λ_ W=>rfl,λ_=>rfl⟩;refine bb (g6 (zb s w b j (a5 _) t λi g e=>⋯) ?_);rintro m x Qp ⟨rfl,rfl,k,rfl,y,E,u,H⟩;dsimp only;by_cases d:k=f
 ·rw[aE ⇑d];exact a_ (c k q _ y E b j (λ_ W=>rfl) u)
 rw[aK ⇑d];have I:a7 M q (R+k)<a7 M q (R+k-1):=H.resolve_left d;by_cases F:k>1
 ·rw[aE F];refine bb (rt s b ⋯ ⋯ j ?_);dsimp only;by_cases G:a7 M q R<a7 M q (R+k-1)
  ·rw[aE ⇑G];exact a_ (c k q _ y E b j (λ_ W=>rfl) u)
  ·rw[aK ⇑G];have up:∀v,v<k->a7 M q R<=a7 M q (R+v)/\a7 M q (R+v)<=a7 M q (R+k-1):=by
    have J:∀v,v<k->a7 M q R<=a7 M q (R+v):=λv=>by
     induction v with
     |zero=>intro W;exact jJ _
     |succ v z=>
      intro A;have g:=u (R+(v+1)) ⋯ ⋯;rw[show R+(v+1)-1=R+v by lia]at g;have:=z ⋯;lia
    have L:∀v,v<k->a7 M q (R+k-1-v)<=a7 M q (R+k-1):=λv=>by
     induction v with
     |zero=>intro W;exact jJ _
     |succ v z=>
      intro A;have g:=u (R+k-1-v) ⋯ ⋯;rw[show R+k-1-v-1=R+k-1-(v+1) by lia]at g;have:=z ⋯;lia
    intro v A;refine⟨J v A,?_⟩;have:=L (k-1-v) ⋯
    rwa [show R+k-1-(k-1-v)=R+v by lia]at this
   have B:∀n,R<=n->n<R+k->a7 M q n=a7 M q R:=λn g e=>by
    have:=up (n-R) ⋯;rw[show R+(n-R)=n by lia]at this;lia
   refine bb (sC j λS QN=>?_);exact FA (q:=q) s w (C.rev (a5 _) ⋯ B) QN y ⋯ (λi P Q=>by
    by_cases d:i=R+k
    ·subst d;lia
    ·rw[B i ⋯ ⋯,B (i-1) ⋯ ⋯];exact jJ _) c
 rw[aK F];obtain rfl:k=1:=⋯
 exact FA (q:=q) s w C j (a5 _) ⋯ (λi P Q=>by
  obtain rfl:i=R+1:=⋯
  exact Int.le_of_lt I) c
end
section
variable{Qy:bz}{l:bc}{O:bl}{Qt:ae->ah->Prop}{QP:gf}{it:Array ba}{M:Nat->Int}{r:Nat}{h:ah}{o:Array (Nat×Nat×Nat)}
variable{q:Array Nat}
theorem d2.same:∀{A J:List (Nat×Nat×Nat)}{g e:Nat},d2 M q g A e->(A.map λf=>(f.1,f.2.1))=(J.map λf=>(f.1,f.2.1))->d2 M q g J e
 |[],[],g,e,c,_=>c
 |[],_::_,g,e,c,d=>by cases d
 |_::_,[],g,e,c,d=>by cases d
 | (f,x,j)::A,(k,l,m)::J,g,e,c,d=>by
  rw[cH,cH]at d;injection d with h i;injection h with a b;dsimp only at a b;subst a;subst b;exact⟨c.1,c.2.1,c.2.2.1,c.2.2.2.same i⟩
def J0(w:Array (Nat×Nat×Nat))(a b:Nat):(w.toList.map λf=>(f.1,f.2.1))=((w.modify a λf=>(f.1,f.2.1,b)).toList.map λf=>(f.1,f.2.1)):=by
 apply oe;intro i;rw[eH,eH,eE,eE,Array.getElem?_modify];split
 ·rw[Option.map_map];rfl
 ·rfl
def hg.congr{p:Array Nat}{R k:Nat}(c:hg M q R k)(L:∀a,R<=a->a7 M p a=a7 M q a):hg M p R k:=λa i g e m=>by
 rw[L a g,L i ⋯];exact c a i g e m
def Hw{ay:gT}{O:bl}{Qt:ae->ah->Prop}{B QT:Type}{m:Nat->Prop}{d:∀k,Decidable (m k)}{b Rn:Nat->StateT B dD QT}{D:QT->B->ah->Prop}{h:ah}(Qr:Nat->B->Prop)(j:∀k N,Qr k N->kasC ay O Qt (Rn k) D N h)(a:(∀k N,Qr k N->kasC ay O Qt (Rn k) D N h)->∀k N,m k->Qr k N->kasC ay O Qt (b k) D N h):∀k N,Qr k N->kasC ay O Qt (if m k then b k else Rn k) D N h:=λk N q=>
 if c:m k then by rw[aE c];exact a j k N c q else by rw[aK c];exact j k N q
variable{D:Unit->br->ah->Prop}
def IU(z:fz r M (eQ Qy l O QP it) h)(E:2<=r)(as:∀t b,cP r t->kU M t r->arrOf b=t.map (a8 it)->ht b=Y->D () b h):kasC (aO Qy l) O Qt sortRuns' D (tQ QP it (range r).toArray) h:=by
 rw[sortRuns'_eq];refine bb (jx ?_);dsimp only;have a1:(arrOf<|tQ QP it (range r).toArray).size=r:=by
  show ((range r).toArray.map<|a8 it).size=r;simp
 simp only[a1];refine bb (g6 (a:=λm b Qp=>h=Qp/\m=(Y,r)/\∃o q,cP r q/\eh QP it o b q/\d2 M q 0 o.toList r)
  (fs (gm (λf m b Qp=>h=Qp/\∃R o q,m=(Y,R)/\f<=R/\R<=r/\cP r q/\eh QP it o b q/\d2 M q 0 o.toList R) ?step _ 0 _ _ _ ?fin ⟨rfl,0,#[],(range r).toArray,rfl,a5 _,⋯,List.Perm.refl _,⟨rfl,rfl,rfl,rfl⟩,rfl⟩)) ?after)
 case fin=>
  rintro m b Qp ⟨rfl,R,o,q,rfl,g,e,v,d,C⟩;have:R=r:=⋯
  subst this;exact⟨rfl,rfl,o,q,v,d,C⟩
 case after=>
  rintro m b Qp ⟨rfl,rfl,o,q,s,j,Qu⟩;dsimp only;refine bb (g6 (a:=λm b Qp=>h=Qp/\m=(Y,())/\∃q,cP r q/\kU M q r/\arrOf b=q.map (a8 it)/\ht b=Y)
   (fs (gm (λf m b Qp=>h=Qp/\m=(Y,())/\∃o q,cP r q/\eh QP it o b q/\d2 M q 0 o.toList r/\o.size+f<=r) ?A _ 0 _ _ _ ?f2 ⟨rfl,rfl,o,q,s,j,Qu,by have:=Qu.le;rw[dp]at this;lia⟩)) ?a2)
  case a2=>
   rintro m b Qp ⟨rfl,rfl,q,g,e,m,v⟩;exact a_ (as q _ g e m v)
  case f2=>
   rintro m b Qp ⟨rfl,rfl,o,q,s,j,Qu,bd⟩;have d:o.toList=[]:=oc (by rw[dp];lia);rw[d]at Qu;have:0=r:=Qu;lia
  case A=>
   rintro f m b Qp ⟨rfl,rfl,o,q,s,j,Qu,bd⟩;refine bb (jx ?_);by_cases d:(hv b).size<=1
   ·rw[aE d];refine a_ ⟨rfl,rfl,q,s,?_,j.a,j.f⟩;rw[j.p]at d;have be:o.toList.length<=1:=by rw[dp];exact d
    match S:o.toList,be with
    |[],_=>
     rw[S]at Qu;have:0=r:=Qu;lia
    |[(f,x,T)],_=>
     rw[S]at Qu;let@⟨rfl,_,bi,bm⟩:=Qu;have:0+x=r:=bm;exact λa i bn cl=>bi a i (fo _) bn ⋯
    |_::_::_,c=>exact absurd c ↥0
   ·rw[aK d];rw[j.p]at d;have bs:∀L,L+1<o.size->kasC (aO Qy l) O Qt (sh L) (λe u A=>e=X/\h=A/\∃o q,cP r q/\eh QP it o u q/\d2 M q 0 o.toList r/\o.size+(f+1)<=r) b h:=λL bv=>
     FC z s j bv Qu (a5 _) λN t ca g e m v U=>⟨rfl,rfl,N,t,g,e,v,⋯⟩;refine bb (g6 (bs _ ?_) ?_)
    ·rw[j.p];have:∀(m:Prop) [Decidable m],(if m then o.size-2-1 else o.size-2)+1<o.size:=λm W=>by split<;>lia
     exact this _
    ·rintro e u A ⟨rfl,rfl,cd⟩;rw[aK ∅];exact a_ ⟨rfl,rfl,cd⟩
 case step=>
  rintro f m b Qp ⟨rfl,R,o,q,rfl,co,cr,s,j,Qu⟩;dsimp only;by_cases al:R >= r
  ·rw[aE al];have:R=r:=⋯
   subst this;exact a_ ⟨rfl,rfl,o,q,s,j,Qu⟩
  rw[aK al];refine bb (Mw z s ⋯ ⋯ j ?_);intro k am y w B F QB an G;have p:k<=r-R/\1<=k/\∃q,cP r q/\eh QP it o y q/\d2 M q 0 o.toList R/\hg M q R k:=⟨B,w,am,F,QB,Qu.congr λa W e=>lM<|an a e,EN G⟩;dsimp only;clear G an QB F w B;revert k y;refine Hw (λk y=>k<=r-R/\1<=k/\∃q,cP r q/\eh QP it o y q/\d2 M q 0 o.toList R/\hg M q R k) ?_ ?_
  ·intro k u p;let@⟨B,w,⟨@Rf,I,QN,bS,J⟩⟩:=p;refine bb (jx ?_);rcases cs:(hv u).back? with _|⟨db,ds,dL⟩
   ·dsimp only;refine bb (kg ?_);refine a_ ⟨rfl,R+k,o.push (R,k,0),Rf,rfl,⋯,⋯,I,⟨QN.k,QN.a,by show (hv u).push _=_;rw[QN.p],QN.f⟩,?_⟩;rw[FH];exact d2.app.mpr ⟨R,bS,rfl,⋯,J,rfl⟩
   ·dsimp only;refine bb (g6 (a:=λm b Qp=>h=Qp/\m=(Y,())/\∃o q,cP r q/\eh QP it o b q/\d2 M q 0 o.toList R/\hg M q R (k))
     (fs<|gm (λf m b Qp=>h=Qp/\m=(Y,())/\∃o q,cP r q/\eh QP it o b q/\d2 M q 0 o.toList R/\hg M q R (k)) ?_ _ 0 _ _ _ (λ_ W W T=>T) ⟨rfl,rfl,o,Rf,I,QN,bS,J⟩) ?_)
    ·rintro H m b Qp ⟨rfl,rfl,o,q,s,j,Qu,O⟩;refine bb (jx ?_);by_cases d:(hv b).size>1
     ·rw[aE d];rcases eq:(hv b)[(hv b).size-2]? with _|⟨g,e,ev⟩
      ·dsimp only;exact a_ ⟨rfl,rfl,o,q,s,j,Qu,O⟩
      ·dsimp only;split
       ·exact a_ ⟨rfl,rfl,o,q,s,j,Qu,O⟩
       ·refine bb (FC z s j (by rw[j.p]at d ⊢;lia) Qu ⋯ ?_);intro N t ca g e m v U;rw[aK ∅];exact a_ ⟨rfl,rfl,N,t,g,e,v,O.congr U⟩
     ·rw[aK d];dsimp only;exact a_ ⟨rfl,rfl,o,q,s,j,Qu,O⟩
    ·rintro m b Qp ⟨rfl,rfl,o,q,s,j,Qu,O⟩;dsimp only;refine bb (kg ?_);refine bb (kg ?_);refine a_ ⟨rfl,R+k,(o.modify (o.size-1) _).push (R,k,0),q,rfl,⋯,⋯,s,⟨j.k,j.a,by show ((hv b).modify ((hv b).size-1) _).push _=_;rw[j.p],j.f⟩,?_⟩;rw[FH];exact d2.app.mpr ⟨R,Qu.same<|J0 _ _ _,rfl,⋯,O,rfl⟩
  ·intro Qq k y ex p;let@⟨B,w,⟨@am,F,QB,ce,G⟩⟩:=p;refine bb (mw<|iJ ?_);have P:k<=min (r-R) (minRun' r r 0):=⋯
   have ap:min (r-R) (minRun' r r 0)<=r-R:=⋯
   generalize min (r-R) (minRun' r r 0)=ch at P ap ⊢;refine bb (Kd z F ⋯ w P G QB ?_);intro Rf u I QN ci J;rw[aK ∅];exact Qq ch u ⟨ap,eG w P,Rf,I,QN,ce.congr λa W e=>lM<|ci a e,J⟩
def Nc(c:fz r M (eQ Qy l O QP it) h)(E:2<=r)(up:r<1001\/∀i,1<=i->i<r->M (i-1)<=M i)(d:∀a b,cP r a->kU M a r->arrOf b=a.map (a8 it)->ht b=Y->D () b h):kasC (aO Qy l) O Qt sortRuns' D (tQ QP it (range r).toArray) h:=IU c E d
end
end L2
namespace L2
open Spec PyProof.Rows
section
variable{b:aJ}{Q:List (ak×a3)}{B:aW}{j:aw}{h:ah}{T:aV}
variable{Rt:List ak}{QZ:Nat}
def aA.NM{Qq:ak}{w:List af}(G:aA b Q B j h)(a:∀e∈Rt,ja b Q j e)(n:∀e o,e∉Rt->h.heap.get? e=Z o->T.get? e=Z o)(m:h.heap.objs.size<=Qq)(new:eK b.prog b.w (upd j Qq<|.tup w) T Qq (.tup w)):aA b Q B (upd j Qq<|.tup w) {h with heap:=T,toks:=QZ}:=by
 have f:j Qq=Y:=G.a0.fresh m;have u:∀e o,h.heap.get? e=Z o->e≠Qq:=λe o d=>c1 (e5 (b1 d) m);have q:∀e J,j e=Z J->e∉Rt:=λe J d z=>by rw[(a e z).1]at d;cases d
 refine G.step (H:=h.gens) (U:=h.drawn) (Rt:=Rt) (λe c=>⟨(a e c).2.2.2.1,(a e c).2.1,(a e c).2.2.2.2.1,(a e c).2.2.2.2.2⟩) (λe o W W i d W=>n e o i d) (λe o W W i d W=>⟨o.slots,n e o i d⟩)
  (λe o W d r=>by rw[cU (u e o d)];exact r) (λe o i d=>⟨o,n e o i d⟩) (λe QJ d=>by rw[cU (gP d f)];exact d) (λe o J d=>by rw[cU (gP d f)];exact d)
  (λe QF d=>⟨#[],by rw[cU (gP d f),d];simp⟩) (λk v=>?_) (λg o d=>?_) G.bare
 ·let⟨o,Qs,@Rc,x,s⟩:=v;exact⟨o,Qs,Rc,n _ o (λz=>(a _ z).2.1 rfl) x,s⟩
 ·by_cases t:g=Qq
  ·subst t;rw[fa]at d;cases d;exact new
  ·rw[cU t]at d;refine (G.a0 g o d).iL (λe J c p=>n e J ?_ p) (λe p=>by rw[cU (gP p f)];exact p) λe QJ p=>by rw[cU (gP p f)];exact p
   rcases c with z|z
   ·rw[z];exact q g o d
   ·exact q e _ z
def aA.IP(G:aA b Q B j h)(a:∀e∈Rt,ja b Q j e)(n:∀e o,e∉Rt->h.heap.get? e=Z o->T.get? e=Z o):aA b Q B j {h with heap:=T,toks:=QZ}:=by
 have i:∀e J,j e=Z J->e∉Rt:=λe J d z=>by rw[(a e z).1]at d;cases d
 refine G.step (H:=h.gens) (U:=h.drawn) (Rt:=Rt) (λe c=>⟨(a e c).2.2.2.1,(a e c).2.1,(a e c).2.2.2.2.1,(a e c).2.2.2.2.2⟩) (λe o W W f d W=>n e o f d) (λe o W W f d W=>⟨o.slots,n e o f d⟩)
  (λe o W W r=>r) (λe o f d=>⟨o,n e o f d⟩) (λe QJ d=>d) (λe o J d=>d) (λe QF d=>⟨#[],by rw[d];simp⟩) (λk l=>?_) (λg o d=>?_) G.bare
 ·let⟨o,Qs,@Rc,m,s⟩:=l;exact⟨o,Qs,Rc,n _ o (λz=>(a _ z).2.1 rfl) m,s⟩
 ·refine (G.a0 g o d).iL (λe J c p=>n e J ?_ p) (λe p=>p) λe QJ p=>p;rcases c with z|z
  ·rw[z];exact i g o d
  ·exact i e _ z
end
section
variable{Qy:bz}{l:bc}{O:bl}{Qt:ae->ah->Prop}{h:ah}
variable{a:Nat}{QL:Array ae}{D:ae->ah->Prop}
def uT{it A:ak}{f:ae}(d:h.heap.IsTupleIter it A a)(bf:h.heap.IsTuple A QL)(g:QL[a]?=Z f)(p:∀T,T.IsTupleIter it A (a+1)->aV.SameBut it h.heap T->D f {h with heap:=T}):wpAny (aO Qy l) O (bq.SmallTypes.nextOf<|.ref it) D Qt h:=by
 let⟨@o,c,j,b⟩:=id d;let⟨@ol,g1,W,⟨@i,k⟩⟩:=bf;unfold bq.SmallTypes.nextOf;refine av (lW (name:=aB.ofString "__next__") d.typeIs ta<|iN ta d.typeIs BM ?e<|Ai _)
 case e=>
  show wpAny _ _ (mg (.ref it) 0 >>= _) _ _ h;refine av (hl c b (x:=.ref A) rfl ?_);show wpAny _ _ (if (ae.ref A==ae.none)=X then _ else _) _ _ h;rw[aK (show ¬ (ae.ref A==ae.none)=X by intro e;cases e)];show wpAny _ _ (mg (.ref it) 1 >>= _) _ _ h;refine av (hl c b (x:=.int a 0) rfl ?_);show wpAny _ _ (oW (.ref A) >>= _) _ _ h;refine av (hj g1 k ?_);simp only[q_,g];refine av (uk c b ↥0 (aS ⟨f,rfl,aS (p _ ⟨_,oK _ c<|AW<|tI b _,(y5 ..).trans j,by rw[tI b];simp[jN]⟩<|oo ..)⟩))
def zY{it A:ak}(m:O.handled=Y)(b:h.heap.IsTupleIter it A a)(bf:h.heap.IsTuple A QL)(n:QL[a]?=Y)(p:∀T d,aV.ExtBut it h.heap T->(∃o,T.get? d=Z o/\o.cls=.type "StopIteration")->Qt (.ref d) {h with heap:=T}):wpAny (aO Qy l) O (bq.SmallTypes.nextOf<|.ref it) D Qt h:=by
 let⟨@o,c,r,e⟩:=id b;let⟨@ol,g1,W,⟨@i,q⟩⟩:=bf;unfold bq.SmallTypes.nextOf;refine av (lW (name:=aB.ofString "__next__") b.typeIs ta<|iN ta b.typeIs BM ?j<|Ai _)
 case j=>
  show wpAny _ _ (mg (.ref it) 0 >>= _) _ _ h;refine av (hl c e (x:=.ref A) rfl ?_);show wpAny _ _ (if (ae.ref A==ae.none)=X then _ else _) _ _ h;rw[aK (show ¬ (ae.ref A==ae.none)=X by intro j;cases j)];show wpAny _ _ (mg (.ref it) 1 >>= _) _ _ h;refine av (hl c e (x:=.int a 0) rfl ?_);show wpAny _ _ (oW (.ref A) >>= _) _ _ h;refine av (hj g1 q ?_);simp only[q_,n];refine av (iJ (av (uk c e ↥0 ?_)));show wpAny _ _ (uA (.type "StopIteration") [] >>= _) _ _ _;apply av;simp only[uA,xi];refine av (hJ (av (m:=rT _ _) (qe (a:=ae.none) (by first|rfl|(simp only[rT];rfl)) (hJ ?_ (by size_fits)))) (by size_fits));simp only[raiseNew];apply av;apply zP;rw[show O.in1.handled=Y from m];refine av (m:=pure _) (aS<|wpAny_throw ?_);exact p _ _ (((oo ..).extBut.push _).push _) ⟨_,c_ _ rfl,rfl⟩
end
section
variable{Qy:bz}{l:bc}{O:bl}{Qt:ae->ah->Prop}{h:ah}
variable{c T:aV}{g:ak}
def h5{A:ak}{a:Nat}(f:c.IsTupleIter g A a)(n:∀o,c.get? g=Z o->T.get? g=Z o):T.IsTupleIter g A a:=let ⟨o,d,s⟩:=f;⟨o,n o d,s⟩
variable{w:Array ae}
def oB(f:c.IsTuple g w)(n:∀o,c.get? g=Z o->T.get? g=Z o):T.IsTuple g w:=let ⟨o,d,s⟩:=f;⟨o,n o d,s⟩
variable{g e:ae}{Q0 Q6:Nat}{QJ:Array ae}
def Jy{a cW cJ c i aZ bh:ak}{f H:ae}{D:ae->ah->Prop}(y:tx a cW cJ c i aZ bh)(q:iY h.heap a cW cJ .none)(am:hR h.heap cW (.ref c) (.ref i))(an:hR h.heap cJ g e)(t:h.heap.IsTupleIter c aZ Q0)(E:h.heap.IsTupleIter i bh Q6)(ap:h.heap.IsTuple aZ w)(as:h.heap.IsTuple bh QJ)(a1:w[Q0]?=Z f)(a2:QJ[Q6]?=Z H)(bd:∀T,iY T a cW cJ (jN h.heap.objs.size)->hR T cJ f H->T.IsTupleIter c aZ (Q0+1)->T.IsTupleIter i bh (Q6+1)->hR T h.heap.objs.size f H->
   (∀m o,m≠a->m≠cJ->m≠c->m≠i->h.heap.get? m=Z o->T.get? m=Z o)->D (.ref h.heap.objs.size) {h with heap:=T}):
  wpAny (aO Qy l) O (bq.«zip.__next__» ⟨[.ref a],[]⟩) (λbe Qp=>∃u,be=.done (.ret u)/\D u Qp) Qt h:=by
 show wpAny _ _ (mg (.ref a) 2 >>= _) _ _ _;refine av (hl q rfl (x:=.bool aq) rfl ?_);show wpAny _ _ (mg (.ref a) 3 >>= _) _ _ _;refine av (hl q rfl (x:=.ref cW) rfl<|av<|hj am rfl ?_);show wpAny _ _ (bq.SmallTypes.ownedTupleIsFree (.ref a) >>= _) _ _ _;apply av;unfold bq.SmallTypes.ownedTupleIsFree;refine av (hl q rfl (x:=.none) rfl<|aS ?_);simp only[gv];refine av (iJ (av (hl q rfl (x:=.ref cJ) rfl (av (oV q ↥0 λJ A j=>?_)))));replace A:iY J a cW cJ .ellipsis:=A;apply av;simp only[yF,Fw,sj,Fz];refine av (av<|tv ?_);show wpAny _ _ (bq.SmallTypes.nextOf (.ref c) >>= _) _ _ _;refine av (uT (h:={h with heap:=J}) (h5 t λo d=>j.extBut _ o y.i1z d) (oB ap λo d=>j.extBut _ o y.l1z d) a1 λB bi n=>aS ?_);have Rd:hR B cJ g e:=n.extBut _ _ y.TOi1 (j.extBut _ _ y.TOz an);refine av (hj (s:={h with heap:=B}) Rd rfl<|av<|xX (s:={h with heap:=B}) Rd λM U p=>?_);replace U:hR M cJ f e:=U;refine av (mZ<|aS<|av<|av<|tv ?_);show wpAny _ _ (bq.SmallTypes.nextOf (.ref i) >>= _) _ _ _;refine av (uT (h:={h with heap:=M}) (h5 E λo d=>p.extBut _ o y.TOi2.symm<|n.extBut _ o y.i12.symm<|j.extBut _ o y.i2z d) (oB as λo d=>p.extBut _ o y.l2TO<|n.extBut _ o y.l2i1<|j.extBut _ o y.l2z d) a2 λC bm r=>aS ?_);have Q7:hR C cJ f e:=r.extBut _ _ y.TOi2 U;refine av (hj (s:={h with heap:=C}) Q7 rfl<|av<|xX (s:={h with heap:=C}) Q7 λb L s=>?_);replace L:hR b cJ f H:=L;refine av (mZ<|aS<|aS<|av<|hj (s:={h with heap:=b}) L rfl<|av<|B9 ?_);have N:b.objs.size=h.heap.objs.size:=by rw[s.1,r.1,p.1,n.1,j.1]
 have P:iY b a cW cJ .ellipsis:=s.extBut _ _ y.TOz.symm (r.extBut _ _ y.i2z.symm<|p.extBut _ _ y.TOz.symm<|n.extBut _ _ y.i1z.symm A);have bn:∀m o,m≠a->m≠cJ->m≠c->m≠i->h.heap.get? m=Z o->b.get? m=Z o:=λm o k v F G d=>s.extBut _ _ v (r.extBut _ _ G<|p.extBut _ _ v<|n.extBut _ _ F<|j.extBut _ _ k d);have dV:b.IsTupleIter c aZ (Q0+1):=h5 bi λo d=>s.extBut _ o y.TOi1.symm (r.extBut _ o y.i12<|p.extBut _ o y.TOi1.symm d);have dg:b.IsTupleIter i bh (Q6+1):=h5 bm λo d=>s.extBut _ o y.TOi2.symm d;have Q:a<b.objs.size:=b1 P;show wpAny _ _ (bq.SmallTypes.ownedTupleHandOut (.ref a) (.ref b.objs.size) >>= _) _ _ _;apply av;unfold bq.SmallTypes.ownedTupleHandOut;have bs:iY (b.push {cls:=.type "tuple",data:=.seq #[f,H]}) a cW cJ .ellipsis:=b6 _ P;refine av (oV bs ↥0 λbv I R=>?_);replace I:iY bv a cW cJ (jN b.objs.size):=I;refine oV I ↥0 λx z S=>?_;replace z:iY x a cW cJ (jN b.objs.size):=z;have up:∀m o,m≠a->b.get? m=Z o->x.get? m=Z o:=λm o k d=>S.extBut _ _ k (R.extBut _ _ k<|b6 _ d);have al:hR x b.objs.size f H:=S.extBut _ _ (ng Q) (R.extBut _ _ (ng Q)<|c_ _ rfl);rw[N]at z al;refine aS ⟨_,rfl,?_⟩;show D (.ref b.objs.size) _;rw[N];exact bd x z (up _ _ y.TOz L) (h5 dV λo d=>up _ o y.i1z d) (h5 dg λo d=>up _ o y.i2z d) al λm o k v F G d=>up m o k (bn m o k v F G d)
def LL{a cW cJ n q aZ bh:ak}{D:PySem.Fin->ah->Prop}(I:O.handled=Y)(y:tx a cW cJ n q aZ bh)(r:iY h.heap a cW cJ .none)(R:hR h.heap cW (.ref n) (.ref q))(S:hR h.heap cJ g e)(t:h.heap.IsTupleIter n aZ Q0)(E:h.heap.IsTupleIter q bh Q6)(J:h.heap.IsTuple aZ w)(al:h.heap.IsTuple bh QJ)(am:w[Q0]?=Y\/QJ[Q6]?=Y)(L:∀T d,(∀m o,m≠a->m≠cJ->m≠n->m≠q->h.heap.get? m=Z o->T.get? m=Z o)->(∃o,T.get? d=Z o/\o.cls=.type "StopIteration")->Qt (.ref d) {h with heap:=T}):
  wpAny (aO Qy l) O (bq.«zip.__next__» ⟨[.ref a],[]⟩) D Qt h:=by
 show wpAny _ _ (mg (.ref a) 2 >>= _) _ _ _;refine av (hl r rfl (x:=.bool aq) rfl ?_);show wpAny _ _ (mg (.ref a) 3 >>= _) _ _ _;refine av (hl r rfl (x:=.ref cW) rfl<|av<|hj R rfl ?_);show wpAny _ _ (bq.SmallTypes.ownedTupleIsFree (.ref a) >>= _) _ _ _;apply av;unfold bq.SmallTypes.ownedTupleIsFree;refine av (hl r rfl (x:=.none) rfl<|aS ?_);simp only[gv];refine av (iJ (av (hl r rfl (x:=.ref cJ) rfl (av (oV r ↥0 λz x b=>?_)))));replace x:iY z a cW cJ .ellipsis:=x;apply av;simp only[yF,Fw,sj,Fz];refine av (av<|tv ?_);show wpAny _ _ (bq.SmallTypes.nextOf (.ref n) >>= _) _ _ _;cases A:w[Q0]? with
 |none=>
  refine av (zY (h:={h with heap:=z}) I (h5 t λo d=>b.extBut _ o y.i1z d) (oB J λo d=>b.extBut _ o y.l1z d) A λs d i B=>?_);let⟨@C,j,u⟩:=B;have M:iY s a cW cJ .ellipsis:=i _ _ y.i1z.symm x;have F:d≠a:=λp=>by subst p;rw[M]at j;cases j;simp at u
  refine oV M ↥0 λG W k=>L G d (λm o v W H W p=>k.extBut _ _ v<|i _ _ H<|b.extBut _ _ v p) ⟨C,k.extBut _ _ F j,u⟩
 |some f=>
  have an:QJ[Q6]?=Y:=by
   rcases am with c|c
   ·rw[A]at c;cases c
   ·exact c
  refine av (uT (h:={h with heap:=z}) (h5 t λo d=>b.extBut _ o y.i1z d) (oB J λo d=>b.extBut _ o y.l1z d) A λs bd i=>aS ?_);have Rd:hR s cJ g e:=i.extBut _ _ y.TOi1 (b.extBut _ _ y.TOz S);refine av (hj (s:={h with heap:=s}) Rd rfl<|av<|xX (s:={h with heap:=s}) Rd λG U k=>?_);refine av (mZ<|aS<|av<|av<|tv ?_);show wpAny _ _ (bq.SmallTypes.nextOf (.ref q) >>= _) _ _ _;refine av (zY (h:={h with heap:=G}) I (h5 E λo d=>k.extBut _ o y.TOi2.symm<|i.extBut _ o y.i12.symm<|b.extBut _ o y.i2z d) (oB al λo d=>k.extBut _ o y.l2TO<|i.extBut _ o y.l2i1<|b.extBut _ o y.l2z d) an λap d N B=>?_);let⟨@C,j,u⟩:=B;have P:iY ap a cW cJ .ellipsis:=N _ _ y.i2z.symm (k.extBut _ _ y.TOz.symm<|i.extBut _ _ y.i1z.symm x);have F:d≠a:=λp=>by subst p;rw[P]at j;cases j;simp at u
  refine oV P ↥0 λas W Q=>L as d (λm o v a1 H a2 p=>Q.extBut _ _ v<|N _ _ a2<|k.extBut _ _ a1<|i.extBut _ _ H<|b.extBut _ _ v p) ⟨C,Q.extBut _ _ F j,u⟩
end
variable{h:ah}{Ra:bS}{QW Ri QX:List Nat}{own QF:List aB}{Rl QY m d e g:bk}{Rx:List cF}{Qt:m5}{N:cF}{Ry B:aW}{fd:gj}{f:aB}{r RD:Nat}{U w:List af}{I:List V}{aL QO O Qu QV z Q3 QE P:List ak}{D:cz}{s Qs:List bk}{QZ:dZ}{b:aJ}{QN QB F j:aw}{u:af}{q QK:Pos}{Qw:Φ}
def jr(c:aV)(aZ bh:ak):aV:=(((((c.push {cls:=.type "tuple_iterator",data:=.fields #[.ref aZ,.int 0 0]}).push {cls:=.type "tuple_iterator",data:=.fields #[.ref bh,.int 0 0]}).push
 {cls:=.type "tuple",data:=.seq #[.ref c.objs.size,.ref (c.push {cls:=.type "tuple_iterator",data:=.fields #[.ref aZ,.int 0 0]}).objs.size]}).push {cls:=.type "tuple",data:=.seq #[.none,.none]}))
def JW(aZ bh:ak)(w QJ:Array ae):
    Meets (bq.«zip.__new__» ⟨[.type "zip", .ref aZ,.ref bh],[]⟩) (λ_ Qu h => h.heap.IsTuple aZ w /\ h.heap.IsTuple bh QJ /\
      Qu (.ok<|.ret<|.ref (jr h.heap aZ bh).objs.size) {h with heap:=(jr h.heap aZ bh).push {cls:=.type "zip", data:=.fields #[.none,.bool aq,.bool aq,.ref ((h.heap.push {cls:=.type "tuple_iterator", data:=.fields #[.ref aZ,.int 0 0]}).push {cls:=.type "tuple_iterator", data:=.fields #[.ref bh,.int 0 0]}).objs.size,
        .ref (((h.heap.push {cls:=.type "tuple_iterator", data:=.fields #[.ref aZ,.int 0 0]}).push {cls:=.type "tuple_iterator", data:=.fields #[.ref bh,.int 0 0]}).push
  {cls:=.type "tuple", data:=.seq #[.ref h.heap.objs.size,.ref (h.heap.push {cls:=.type "tuple_iterator", data:=.fields #[.ref aZ,.int 0 0]}).objs.size]}).objs.size]} }) :=
  .of_wp λQy l O Qu h c => by
    let⟨a,L,v,Q1,M⟩:=h;let@⟨b,e,c⟩:=c;have i:=sub_zip;have f:aV.IsTuple (ah.heap ⟨a,L,v,Q1,M⟩) aZ w:=b;have g:aV.IsTuple (ah.heap ⟨a.push {cls:=.type "tuple_iterator", data:=.fields #[.ref aZ,.int 0 0]}, L,v,Q1,M⟩) bh QJ:=oB e λo d => b6 _ d
    wp_walk using wpAny_pyIter_tuple f,wpAny_pyIter_tuple g
    exact ⟨_,rfl,c⟩
def uh(Qw:Φ)(g e:ak):eP:=(
 ⟨λa j=>∃w QJ f H,cb Qw j g w/\cb Qw j e QJ/\w[a]?=Z f/\QJ[a]?=Z H,
  λa j u F=>∃Qq f H,j Qq=Y/\u=.ref Qq/\F=upd j Qq (.tup [f,H])/\(∀w,cb Qw j g w->w[a]?=Z f)/\(∀QJ,cb Qw j e QJ->QJ[a]?=Z H),
  λa j=>∃w QJ,cb Qw j g w/\cb Qw j e QJ/\(w.length<=a\/QJ.length<=a)⟩)
def E9(g e f cW cJ b d:ak)(a:Nat)(c:aV):Prop:=(iY c f cW cJ .none/\hR c cW (.ref b) (.ref d)/\(∃q p,hR c cJ q p)/\c.IsTupleIter b g a/\c.IsTupleIter d e a)
theorem J6{Qr:bz}{l:bc}(g e k cW cJ v x:ak)(y:tx k cW cJ v x g e):
  qi Qr l Qw (.Tuple Qs RD QK) (uh Qw g e) [k,cW,cJ,v,x] k (E9 g e k cW cJ v x) where
 mem:=by simp
 obj:=λa c N m i=>by
  let@⟨t,E,⟨q,@p,r⟩,⟨@Q7,am,_,ca⟩,⟨@L,an,_,cd⟩⟩:=N;simp only[cu,mJ,kJ]at i;rcases i with rfl|rfl|rfl|rfl|rfl
  ·exact⟨_,t,λu d=>by cases d⟩
  ·exact⟨_,E,λu d=>by cases d⟩
  ·exact⟨_,r,λu d=>by cases d⟩
  ·exact⟨_,am,λu d=>by rw[ca]at d;cases d⟩
  ·exact⟨_,an,λu d=>by rw[cd]at d;cases d⟩
 keep:=λa c T N n=>by
  let@⟨t,E,⟨q,@p,r⟩,z,C⟩:=N;exact⟨n k ↥0 _ t,n cW ↥0 _ E,⟨q,p,n cJ ↥0 _ r⟩,h5 z λo d=>n v ↥0 o d,h5 C λo d=>n x ↥0 o d⟩
 item:=by
  intro b ap as a1 i a Q h B j Qt G R N a2;subst ap as a1;let⟨w,QJ,f,@H,S,U,bm,bn⟩:=a2;let⟨@QD,bd,q,I⟩:=G.tuple S;let⟨@be,bi,Rf,ce⟩:=G.tuple U;let⟨@J,ch,ci⟩:=bd.get bm;let⟨@bs,cl,co⟩:=bi.get bn;have cr:=N;let@⟨t,E,⟨bL,@jz,r⟩,z,C⟩:=N;have P:h.TypeIs (.ref k) "zip" := ⟨_,t,rfl⟩;unfold gC;refine av (pS (lW (name:=aB.ofString "__next__") P r3 (iN r3 P Ck
   (Jy (D:=λu Qp=>wpAny (aO b.prog b.w) b.A (pure<|Z u) (λs cs=>∃J,s=Z J/\wpAny (aO b.prog b.w) b.A (qu (.Tuple Qs RD QK) (.ref k) J) (λ_ bv=>∃f F,aA b Q B F bv/\b7 f J/\(uh b.K g e).qH a j f F/\E9 g e k cW cJ v x (a+1) bv.heap/\∀e∈[k,cW,cJ,v,x],F e=Y) Qt cs) Qt Qp)
    y t E r z C (show h.heap.IsTuple g QD.toArray from q) (show h.heap.IsTuple e be.toArray from Rf) (f:=J) (H:=bs) ⇑ch ⇑cl λT db ds dL eq ev al=>aS ⟨_,rfl,?_⟩) (Dj _))));refine wpAny_letOwnedTupleGo_zip db λex fd cn=>?_;have lt:∀m∈[k,cW,cJ,v,x],m<h.heap.objs.size:=λm i=>by
   let@⟨t,E,⟨q,@p,r⟩,⟨@Q7,am,_⟩,⟨@L,an,_⟩⟩:=cr;simp only[cu,mJ,kJ]at i;rcases i with rfl|rfl|rfl|rfl|rfl
   ·exact b1 t
   ·exact b1 E
   ·exact b1 r
   ·exact b1 am
   ·exact b1 an
  have da:∀m o,m∉[k,cW,cJ,v,x]->h.heap.get? m=Z o->ex.get? m=Z o:=λm o i d=>by
   simp only[cu,mJ,kJ,not_or]at i;exact cn.extBut _ _ i.1 (al m o i.1 i.2.2.1 i.2.2.2.1 i.2.2.2.2 d)
  have fn:h.heap.objs.size≠k:=ng (lt k ↥0);have fr:j h.heap.objs.size=Y:=G.a0.fresh (a5 _);refine⟨.ref h.heap.objs.size,upd j h.heap.objs.size<|.tup [f,H],G.NM (QZ:=h.toks) R da (a5 _) ⟨by show 2<=sizeLine;decide,[J,bs],.cons ci<|.cons co .nil,?_⟩,rfl,⟨_,f,H,fr,rfl,rfl,λM I=>?_,λM I=>?_⟩,?_,λm i=>?_⟩
  ·exact⟨_,cn.extBut _ _ fn ev,rfl,0,rfl⟩
  ·rw[G.vy I S];exact bm
  ·rw[G.vy I U];exact bn
  ·exact⟨fd,cn.extBut _ _ y.TIz<|al _ _ y.TIz y.TITO y.TIi1 y.TIi2 E,⟨_,_,cn.extBut _ _ y.TOz ds⟩,h5 dL λo d=>cn.extBut _ o y.i1z d,h5 eq λo d=>cn.extBut _ o y.i2z d⟩
  ·rw[cU (c1<|lt m i)];exact (R m i).1
 done:=by
  intro b ap as a1 i a Q h B j Qt G R N a2;subst ap as a1;let⟨w,@QJ,S,U,f0⟩:=a2;let⟨@QD,bd,q,I⟩:=G.tuple S;let⟨@be,bi,Rf,ce⟩:=G.tuple U;let@⟨t,E,⟨bL,@jz,r⟩,z,C⟩:=N;have P:h.TypeIs (.ref k) "zip" := ⟨_,t,rfl⟩;have aZ:=bd.length;have bh:=bi.length;unfold gC;refine av (pS (lW (name:=aB.ofString "__next__") P r3 (iN r3 P Ck
   (LL (G.ok.hd i) y t E r z C (show h.heap.IsTuple g QD.toArray from q) (show h.heap.IsTuple e be.toArray from Rf) (by
    rcases f0 with c|c
    ·exact .inl (by simp;lia)
    ·exact .inr (by simp;lia)) λT d al ⟨o,f1,f2⟩=>?_) (Dj _))))
  refine av (sG (T := "StopIteration") (b:=X) ⟨o,f1,f2⟩ DN<|aS ⟨rfl,G.IP (QZ:=h.toks) R λm o i d=>?_⟩);simp only[cu,mJ,kJ,not_or]at i;exact al m o i.1 i.2.2.1 i.2.2.2.1 i.2.2.2.2 d
 self:=λ_ W W W W N c=>BX N.1 c
section
variable{b:aJ}
def LB(Qw:Φ)(Q9:eW):cW:=(λB j Qu=>Q9 B j λU QB=>∃g e,U=[.ref g,.ref e]/\(∃w,cb Qw QB g w)/\(∃QJ,cb Qw QB e QJ)/\Qu (uh Qw g e) QB)
def MF{Q9:eW}{QF:Pos}(D:d3 b "zip")(E:b.aI "zip" = Y)(H:ho b [g,e] Q9)(Qx:bQ [g,e] b.env=[(aq,b8 g b.env),(aq,b8 e b.env)]:=by rfl)(r:bQ [e] b.env=[(aq,b8 e b.env)]:=by rfl):
  jM b (.Tuple Qs RD QF) (.Call (.Name "zip" q) [g,e] [] QK) (LB b.K Q9):=by
 intro Q h B j Qu G c;refine Call_ (kz G D E boot_zip (n6 (bU (H QK Q h B j _ G c) λQR a ⟨U,QB,f,I,J⟩=>?_) (by rw[Qx,r]) (by rw[r];rfl)));let⟨aZ,@bh,d,⟨@w,L⟩,⟨@QJ,M⟩,p⟩:=J;subst d;cases I with
 |cons s l=>
  cases l with
  |cons Ra l=>
   cases l;cases s;cases Ra;let⟨@QD,T,q,al⟩:=f.tuple L;let⟨@N,am,Rf,an⟩:=f.tuple M;have O:aZ<a.heap.objs.size:=by let⟨@o,d,P⟩:=q;exact b1 d
   have R:bh<a.heap.objs.size:=by let⟨@o,d,P⟩:=Rf;exact b1 d
   refine callType_new F.called_zip ∅ (F.typeCall_zip_2 _ _) (F.newCall_zip_2 _ _) (λS=>F.args_object_init_3 S _ _) F.entry_zip_new (JW aZ bh QD.toArray N.toArray) ⟨q,Rf,?_⟩;have n:(a.heap.push {cls:=.type "tuple_iterator",data:=.fields #[.ref aZ,.int 0 0]}).objs.size=a.heap.objs.size+1:=my ..;have i:((a.heap.push {cls:=.type "tuple_iterator",data:=.fields #[.ref aZ,.int 0 0]}).push {cls:=.type "tuple_iterator",data:=.fields #[.ref bh,.int 0 0]}).objs.size=a.heap.objs.size+2:=by rw[my,n]
   have k:(((a.heap.push {cls:=.type "tuple_iterator",data:=.fields #[.ref aZ,.int 0 0]}).push {cls:=.type "tuple_iterator",data:=.fields #[.ref bh,.int 0 0]}).push
    {cls:=.type "tuple",data:=.seq #[.ref a.heap.objs.size,.ref (a.heap.push {cls:=.type "tuple_iterator",data:=.fields #[.ref aZ,.int 0 0]}).objs.size]}).objs.size=a.heap.objs.size+3:=by rw[my,i]
   have t:(jr a.heap aZ bh).objs.size=a.heap.objs.size+4:=by unfold jr;rw[my,k]
   show _/\_;refine⟨⟨_,c_ _ rfl,rfl⟩,BX (TI:=a.heap.objs.size+2) (TO:=a.heap.objs.size+3) (f0:=.none) ?_ ?_⟩
   ·rw[i,k];exact c_ _ rfl
   ·rw[i,k,t];have u:((jr a.heap aZ bh).push {cls:=.type "zip",data:=.fields #[.none,.bool aq,.bool aq,.ref<|a.heap.objs.size+2,.ref<|a.heap.objs.size+3]}).get? (a.heap.objs.size+4)=Z {cls:=.type "zip",data:=.fields #[.none,.bool aq,.bool aq,.ref<|a.heap.objs.size+2,.ref<|a.heap.objs.size+3]}:=by rw[<-t];exact c_ _ rfl
    have v:((jr a.heap aZ bh).push {cls:=.type "zip",data:=.fields #[.none,.bool aq,.bool aq,.ref<|a.heap.objs.size+2,.ref<|a.heap.objs.size+3]}).get? (a.heap.objs.size+3)=Z {cls:=.type "tuple",data:=.seq #[.none,.none]}:=by
     rw[<-k];exact b6 _ (c_ _ rfl)
    have x:((jr a.heap aZ bh).push {cls:=.type "zip",data:=.fields #[.none,.bool aq,.bool aq,.ref<|a.heap.objs.size+2,.ref<|a.heap.objs.size+3]}).get? (a.heap.objs.size+2)=Z {cls:=.type "tuple",data:=.seq #[.ref a.heap.objs.size,.ref<|a.heap.objs.size+1]}:=by
     rw[<-i,<-n];exact b6 _ (b6 _<|c_ _ rfl)
    have z:((jr a.heap aZ bh).push {cls:=.type "zip",data:=.fields #[.none,.bool aq,.bool aq,.ref<|a.heap.objs.size+2,.ref<|a.heap.objs.size+3]}).get? (a.heap.objs.size+1)=Z {cls:=.type "tuple_iterator",data:=.fields #[.ref bh,.int 0 0]}:=by
     rw[<-n];exact b6 _ (b6 _<|b6 _<|c_ _ rfl)
    have A:((jr a.heap aZ bh).push {cls:=.type "zip",data:=.fields #[.none,.bool aq,.bool aq,.ref<|a.heap.objs.size+2,.ref<|a.heap.objs.size+3]}).get? a.heap.objs.size=Z {cls:=.type "tuple_iterator",data:=.fields #[.ref aZ,.int 0 0]}:=
     b6 _ (b6 _<|b6 _<|b6 _<|c_ _ rfl);have da:∀m o,a.heap.get? m=Z o->((jr a.heap aZ bh).push {cls:=.type "zip",data:=.fields #[.none,.bool aq,.bool aq,.ref<|a.heap.objs.size+2,.ref<|a.heap.objs.size+3]}).get? m=Z o:=λm o d=>
     b6 _ (b6 _<|b6 _<|b6 _<|b6 _ d);generalize ((jr a.heap aZ bh).push {cls:=.type "zip",data:=.fields #[.none,.bool aq,.bool aq,.ref<|a.heap.objs.size+2,.ref<|a.heap.objs.size+3]})=as at A z x v u da ⊢;have y:tx (a.heap.objs.size+4) (a.heap.objs.size+2) (a.heap.objs.size+3) a.heap.objs.size (a.heap.objs.size+1) aZ bh:=PySem.W.ktu_apart _ _ _ O R;refine⟨_,_,_,_,QB,rfl,f.kept (QZ:=a.toks) da,J6 aZ bh _ _ _ _ _ y,⟨u,x,⟨_,_,v⟩,⟨_,A,rfl,rfl⟩,⟨_,z,rfl,rfl⟩⟩,λm C=>?_,p⟩;have:a.heap.objs.size<=m:=by
     simp only[cu,mJ,kJ]at C;rcases C with rfl|rfl|rfl|rfl|rfl
     ·exact l8 _ _
     ·exact l8 _ _
     ·exact l8 _ _
     ·exact a5 _
     ·exact l8 _ _
    exact f.rK this (f.a0.fresh this)
end
def ER(Qw:Φ)(j:aw)(f:af)(Qq:String)(e:Bool):Prop:=(
 (∃a,f=.int a/\((Qq = "int" /\ e=X)\/(Qq = "tuple" /\ e=aq)\/(Qq = "str" /\ e=aq)\/(Qq = "bool" /\ e=aq)\/(Qq = "list" /\ e=aq)))\/
 (∃a,f=.ax a/\((Qq = "bool" /\ e=X)\/(Qq = "int" /\ e=X)\/(Qq = "tuple" /\ e=aq)\/(Qq = "str" /\ e=aq)\/(Qq = "list" /\ e=aq)))\/
 (∃a,f=.str a/\((Qq = "str" /\ e=X)\/(Qq = "int" /\ e=aq)\/(Qq = "tuple" /\ e=aq)\/(Qq = "bool" /\ e=aq)\/(Qq = "list" /\ e=aq)))\/
 (∃g w,f=.ref g/\cb Qw j g w/\((Qq = "tuple" /\ e=X)\/(Qq = "int" /\ e=aq)\/(Qq = "str" /\ e=aq)\/(Qq = "bool" /\ e=aq)\/(Qq = "list" /\ e=aq)))\/
 (∃g w,f=.ref g/\cT Qw j g w/\((Qq = "list" /\ e=X)\/(Qq = "int" /\ e=aq)\/(Qq = "str" /\ e=aq)\/(Qq = "bool" /\ e=aq)\/(Qq = "tuple" /\ e=aq))))
section
variable{b:aJ}
def OQ:ep b (.builtin "isinstance") (λw j D=>∃f Qq e,w=[f,.ty Qq]/\ER b.K j f Qq e/\D (.ax e) j):=by
 intro Q h B j w QR D G s c;let⟨f,Qq,@e,rfl,S,p⟩:=c;cases s with
 |cons s m=>
  cases m with
  |cons Ra m=>
   cases m;cases Ra;have l:∀{e:Bool},D (.ax e) j->d4 b Q B D (.bool e) h:=λ{e} p=>⟨.ax e,j,G,rfl,p⟩;have d:∀{e:Bool},D (.ax e) j->d4 b Q B D (.bool e) {h with toks:=h.toks+1}:=λ{e} p=>⟨.ax e,j,G.tok _,rfl,p⟩;rcases S with ⟨a,rfl,S⟩|⟨a,rfl,S⟩|⟨a,rfl,S⟩|⟨g,w,rfl,Qx,S⟩|⟨g,w,rfl,Qx,S⟩
   ·let⟨@A,rfl⟩:=s;rcases S with ⟨rfl,rfl⟩|⟨rfl,rfl⟩|⟨rfl,rfl⟩|⟨rfl,rfl⟩|⟨rfl,rfl⟩
    ·exact IsiPair.int_int (l p)
    ·exact IsiPair.int_tuple (d p)
    ·exact IsiPair.int_str (d p)
    ·exact IsiPair.int_bool (d p)
    ·exact IsiPair.int_list (d p)
   ·cases s;rcases S with ⟨rfl,rfl⟩|⟨rfl,rfl⟩|⟨rfl,rfl⟩|⟨rfl,rfl⟩|⟨rfl,rfl⟩
    ·exact IsiPair.bool_bool (l p)
    ·exact IsiPair.bool_int (l p)
    ·exact IsiPair.bool_tuple (d p)
    ·exact IsiPair.bool_str (d p)
    ·exact IsiPair.bool_list (d p)
   ·let⟨@A,rfl⟩:=s;rcases S with ⟨rfl,rfl⟩|⟨rfl,rfl⟩|⟨rfl,rfl⟩|⟨rfl,rfl⟩|⟨rfl,rfl⟩
    ·exact IsiPair.str_str (l p)
    ·exact IsiPair.str_int (d p)
    ·exact IsiPair.str_tuple (d p)
    ·exact IsiPair.str_bool (d p)
    ·exact IsiPair.str_list (d p)
   ·cases s;let⟨@QD,n,⟨@o,i,k,W⟩,r⟩:=G.tuple Qx;rcases S with ⟨rfl,rfl⟩|⟨rfl,rfl⟩|⟨rfl,rfl⟩|⟨rfl,rfl⟩|⟨rfl,rfl⟩
    ·exact IsiPair.tuple_tuple i k (l p)
    ·exact IsiPair.tuple_int i k (d p)
    ·exact IsiPair.tuple_str i k (d p)
    ·exact IsiPair.tuple_bool i k (d p)
    ·exact IsiPair.tuple_list i k (d p)
   ·cases s;let⟨@QD,n,q,r⟩:=G.list Qx;let⟨@o,i,k,W⟩:=q.isList;rcases S with ⟨rfl,rfl⟩|⟨rfl,rfl⟩|⟨rfl,rfl⟩|⟨rfl,rfl⟩|⟨rfl,rfl⟩
    ·exact IsiPair.list_list i k (l p)
    ·exact IsiPair.list_int i k (d p)
    ·exact IsiPair.list_str i k (d p)
    ·exact IsiPair.list_bool i k (d p)
    ·exact IsiPair.list_tuple i k (d p)
def Jp:∀{bs:List Bool}{QR:List ae},bM (bs.map af.ax) QR->∀(a:Nat) (u:ae),QR[a]?=Z u->∃e,bs[a]?=Z e/\u=ae.bool e:=by
 intro bs QR s a u c;have b:=s.length;rw[bj]at b;have S:a<bs.length:=by rw[b];exact (e9.mp c).1
 let⟨@J,d,g⟩:=s.get (a:=a) (f:=af.ax bs[a]) (by simp[S]);rw[c]at d;cases d;exact⟨bs[a],by simp[S],g⟩
def Ka(k:b.calm=X):ep b (.builtin "all") (λw j D=>∃x bs,w=[.ref x]/\j x=Z (.lst<|List.map af.ax bs)/\D (.ax<|bs.all id) j):=by
 intro Q h B j w QR D G s c;let⟨x,@bs,rfl,l,p⟩:=c;let⟨@J,rfl,m⟩:=hF s;cases m;let@⟨z,⟨QD,@r,f,d⟩⟩:=G.a0 x _ l;have g:h.heap.IsList x QD.toArray:=⟨_,d,rfl,r,rfl⟩;refine call_all_walk (rr g ⟨h.heap.objs.size,[h.heap.objs.size,x],[h.heap.objs.size],QD.toArray.size,_,_,λa=>(bs[a]?).getD X,rfl,kM.list (A:=b.A.in1) (G.ok.hd k) _ x (c1<|b1 d) QD.toArray,
  ⟨⟨_,c_ _ rfl,rfl,rfl⟩,g.push _⟩,λa u Qp v y n i=>?_,λT Q1 o=>?_⟩)
 ·let⟨@e,q,rfl⟩:=Jp f a u ⇑n;simp only[q,sN]at i;exact lx i
 ·have t:QD.toArray.size=bs.length:=by
   have:=f.length;rw[bj]at this;rw[cB,this]
  rw[t,LSm.range_all];exact⟨.ax _,j,G.kept<|LSm.kept_iter o,rfl,p⟩
def Ju:dI b (fR .Mult) (n3 IntMulOk λa i=>.int<|a*i):=ub λ_ W W W W W W c p=>mul_int p c
end
inductive ai where
 | im (v:V)
 | dS
 | cS (I:List V)
 | lst (I:List V)
 | dn (QG:List (d_×V))
 | aH (QG:List (List V×V))
 | hU (w:List ai)
 | ov (w:List ai)
variable{Q8:List ai->Option ai}{C:ai->ai->Option ai}{o:Option ai}{v:ai}
abbrev a6:=List (Option ai)
variable{QQ y:a6}{c:List ai->a6->Option a6}
abbrev ej{QP:Type}(j:aw):List (QP×V)->List (QP×af)->Prop:=d0 λq p=>q.1=p.1/\cq j q.2 p.2
def ej.mono{QP:Type}{x:List (QP×V)}{k:List (QP×af)}(A:oM j F)(c:ej j x k):ej F x k:=d0.tl c λ_ W a=>⟨a.1,a.2.mono A⟩
structure fM(j F:aw):Prop where
 tup:oM j F
 dP:∀g o J,j g=Z (.dP o J)->F g=Z (.dP o J)
mutual
def cy(j:aw):ai->af->List ak->Prop
 |.im v,u,P=>cq j v u/\P=[]
 |.dS,_,P=>P=[]
 |.cS I,u,P=>∃g w o,u=.ref g/\j g=Z (.dP o<|.lst w)/\bx j I w/\P=[]
 |.lst I,u,P=>∃g w,u=.ref g/\j g=Z (.lst w)/\bx j I w/\P=[g]
 |.dn QG,u,P=>∃g i,u=.ref g/\j g=Z (.dn i)/\ej j QG i/\P=[g]
 |.aH QG,u,P=>∃g i,u=.ref g/\j g=Z (.aH i)/\ej j QG i/\P=[g]
 |.hU I,u,P=>∃g w QE,u=.ref g/\j g=Z (.lst w)/\dU j I w QE/\P=g::QE
 |.ov I,u,P=>∃g w,u=.ref g/\j g=Z (.tup w)/\dU j I w P
def dU(j:aw):List ai->List af->List ak->Prop
 |[],U,P=>U=[]/\P=[]
 |v::I,U,P=>∃u s z QV,U=u::s/\cy j v u z/\dU j I s QV/\P=z++QV
end
mutual
theorem cy.mono{j F:aw}(A:fM j F):∀{v:ai}{u:af}{P:List ak},cy j v u P->(∀g∈P,∀o,j g=Z o->F g=Z o)->cy F v u P
 |.im v,u,P,c,_=>⟨c.1.mono A.tup,c.2⟩
 |.dS,u,P,c,_=>c
 |.cS I,u,P,c,_=>by
  let⟨g,w,@o,rfl,t,E,rfl⟩:=c;exact⟨g,w,o,rfl,A.dP _ _ _ t,E.mono A.tup,rfl⟩
 |.lst I,u,P,c,n=>by
  let⟨g,@w,rfl,t,E,rfl⟩:=c;exact⟨g,w,rfl,n g (.head _) _ t,E.mono A.tup,rfl⟩
 |.dn QG,u,P,c,n=>by
  let⟨g,@w,rfl,t,E,rfl⟩:=c;exact⟨g,w,rfl,n g (.head _) _ t,E.mono A.tup,rfl⟩
 |.aH QG,u,P,c,n=>by
  let⟨g,@w,rfl,t,E,rfl⟩:=c;exact⟨g,w,rfl,n g (.head _) _ t,E.mono A.tup,rfl⟩
 |.hU I,u,P,c,n=>by
  let⟨g,w,@QE,rfl,t,E,rfl⟩:=c;exact⟨g,w,QE,rfl,n g (.head _) _ t,dU.mono A E λe a=>n e<|.tail _ a,rfl⟩
 |.ov I,u,P,c,n=>by
  let⟨g,@w,rfl,t,E⟩:=c;exact⟨g,w,rfl,A.tup g w t,dU.mono A E n⟩
theorem dU.mono{j F:aw}(A:fM j F):∀{I:List ai}{U:List af}{P:List ak},dU j I U P->(∀g∈P,∀o,j g=Z o->F g=Z o)->dU F I U P
 |[],U,P,c,_=>c
 |v::I,U,P,c,n=>by
  let⟨u,s,z,@QV,rfl,t,E,rfl⟩:=c;exact⟨u,s,z,QV,rfl,cy.mono A t λg a=>n g<|dO _ a,dU.mono A E λg a=>n g<|dR _ a,rfl⟩
end
def gq(j:aw)(g:ak):Prop:=(∃o,j g=Z o/\(∀w,o≠.tup w)/\∀q J,o≠.dP q J)
mutual
theorem cy.chg{j:aw}:∀{v:ai}{u:af}{P:List ak},cy j v u P->∀g∈P,gq j g
 |.im v,u,P,c,g,b=>by rw[c.2]at b;cases b
 |.dS,u,P,c,g,b=>by rw[show P=[] from c]at b;cases b
 |.cS I,u,P,c,e,a=>by
  let⟨g,w,@o,rfl,t,E,rfl⟩:=c;cases a
 |.lst I,u,P,c,e,a=>by
  let⟨g,@w,rfl,t,E,rfl⟩:=c;rw[cK.mp a];exact⟨_,t,(λ_ d=>by cases d),(λ_ W d=>by cases d)⟩
 |.dn QG,u,P,c,e,a=>by
  let⟨g,@w,rfl,t,E,rfl⟩:=c;rw[cK.mp a];exact⟨_,t,(λ_ d=>by cases d),(λ_ W d=>by cases d)⟩
 |.aH QG,u,P,c,e,a=>by
  let⟨g,@w,rfl,t,E,rfl⟩:=c;rw[cK.mp a];exact⟨_,t,(λ_ d=>by cases d),(λ_ W d=>by cases d)⟩
 |.hU I,u,P,c,e,a=>by
  let⟨g,w,@QE,rfl,t,E,rfl⟩:=c;rcases cu.mp a with rfl|a
  ·exact⟨_,t,(λ_ d=>by cases d),(λ_ W d=>by cases d)⟩
  ·exact dU.chg E e a
 |.ov I,u,P,c,e,a=>by
  let⟨g,@w,rfl,t,E⟩:=c;exact dU.chg E e a
theorem dU.chg{j:aw}:∀{I:List ai}{U:List af}{P:List ak},dU j I U P->∀g∈P,gq j g
 |[],U,P,c,g,a=>by rw[c.2]at a;cases a
 |v::I,U,P,c,g,a=>by
  let⟨u,s,z,@QV,rfl,t,E,rfl⟩:=c;rcases dG.mp a with a|a
  ·exact cy.chg t g a
  ·exact dU.chg E g a
end
theorem dU.length:∀{I:List ai}{U:List af}{P:List ak},dU j I U P->I.length=U.length
 |[],U,P,c=>by rw[c.1];rfl
 |v::I,U,P,c=>by
  let⟨u,s,z,@QV,rfl,t,E,rfl⟩:=c;rw[ey,ey,E.length]
theorem bx.length:∀{I:List V}{U:List af},bx j I U->I.length=U.length
 |[],U,c=>by rw[show U=[] from c];rfl
 |v::I,U,c=>by
  let⟨u,@s,rfl,t,E⟩:=c;rw[ey,ey,E.length]
def lI(j:aw):Option ai->Option af->List ak->Prop
 |none,_,P=>P=[]
 |some v,f,P=>∃u,f=Z u/\cy j v u P
def bt(j:aw):a6->aW->List ak->Prop
 |[],B,P=>B=[]/\P=[]
 |o::y,B,P=>∃f s z QV,B=f::s/\lI j o f z/\bt j y s QV/\P=z++QV
structure bp(j:aw)(P:List ak)(F:aw)(Q3:List ak):Prop where
 keep:∀g o,j g=Z o->g∉P->F g=Z o
 sub:∀g∈Q3,g∈P\/j g=Y
 ao:Q3.Nodup
 tup:fM j F
 grow:∀g o,j g=Z o->∃R,F g=Z R
theorem lI.mono(A:fM j F):∀{o:Option ai}{f:Option af}{P:List ak},lI j o f P->(∀g∈P,∀o,j g=Z o->F g=Z o)->lI F o f P
 |none,_,_,c,_=>c
 |some v,f,P,c,n=>by
  let⟨@u,rfl,c⟩:=c;exact⟨u,rfl,c.mono A n⟩
theorem bt.mono{j F:aw}(A:fM j F):∀{y:a6}{B:aW}{P:List ak},bt j y B P->(∀g∈P,∀o,j g=Z o->F g=Z o)->bt F y B P
 |[],B,P,c,_=>c
 |o::y,B,P,c,n=>by
  let⟨f,s,z,@QV,rfl,t,E,rfl⟩:=c;exact⟨f,s,z,QV,rfl,t.mono A λg a=>n g<|dO _ a,bt.mono A E λg a=>n g<|dR _ a,rfl⟩
theorem lI.chg:∀{o:Option ai}{f:Option af}{P:List ak},lI j o f P->∀g∈P,gq j g
 |none,_,P,c,g,a=>by rw[show P=[] from c]at a;cases a
 |some v,f,P,c,g,a=>by
  let⟨@u,rfl,c⟩:=c;exact c.chg g a
theorem bt.chg{j:aw}:∀{y:a6}{B:aW}{P:List ak},bt j y B P->∀g∈P,gq j g
 |[],B,P,c,g,a=>by rw[c.2]at a;cases a
 |o::y,B,P,c,g,a=>by
  let⟨f,s,z,@QV,rfl,t,E,rfl⟩:=c;rcases dG.mp a with a|a
  ·exact t.chg g a
  ·exact bt.chg E g a
theorem bt.len{j:aw}:∀{y:a6}{B:aW}{P:List ak},bt j y B P->y.length=B.length
 |[],B,P,c=>by rw[c.1];rfl
 |o::y,B,P,c=>by
  let⟨f,s,z,@QV,rfl,t,E,rfl⟩:=c;rw[ey,ey,bt.len E]
def ai.ei:ai->Bool
 |.im _=>X
 |.cS _=>X
 |_=>aq
def cy.ei(c:cy j v u P)(m:v.ei=X):P=[]:=by
 cases v with
 |im v=>exact c.2
 |cS I=>let⟨g,w,@o,rfl,t,E,rfl⟩:=c;rfl
 |_=>cases m
theorem bt.out{j:aw}:∀{y:a6}{B:aW}{P:List ak}{a:Nat}{v:ai},bt j y B P->y[a]?=Z (Z v)->∃u z QV,B[a]?=Z (Z u)/\cy j v u z/\bt j (y.set a<|Z .dS) B QV/\(QV++z).Perm P
 |[],B,P,a,v,c,d=>by simp at d
 |o::y,B,P,0,v,c,d=>by
  let⟨f,s,z,@QV,rfl,t,E,rfl⟩:=c;simp at d;subst d;let⟨@u,rfl,t⟩:=t;exact⟨u,z,QV,rfl,t,⟨Z u,s,[],QV,rfl,⟨u,rfl,rfl⟩,E,rfl⟩,c6⟩
 |o::y,B,P,a+1,v,c,d=>by
  let⟨f,s,z,@QV,rfl,t,E,rfl⟩:=c;let⟨u,e,@b,g,h,i,k⟩:=bt.out (a:=a) E ⇑d;refine⟨u,e,z++b,by simpa using g,h,⟨f,s,z,b,rfl,t,i,rfl⟩,?_⟩;rw[bA];exact dT _ k
theorem bt.put{j:aw}:∀{y:a6}{B:aW}{P:List ak}{a:Nat}{v:ai}{u:af}{QE:List ak},bt j y B P->cy j v u QE->a<y.length->∃z QV,bt j (y.set a<|Z v) (B.set a<|Z u) z/\(z++QV).Perm (P++QE)
 |[],B,P,a,v,u,QE,c,l,x=>by simp at x
 |o::y,B,P,0,v,u,QE,c,l,x=>by
  let⟨f,s,z,@QV,rfl,t,E,rfl⟩:=c;refine⟨QE++QV,z,⟨Z u,s,QE,QV,rfl,⟨u,rfl,l⟩,E,rfl⟩,?_⟩;refine c6.trans ?_;rw[bA];exact dT _ c6
 |o::y,B,P,a+1,v,u,QE,c,l,x=>by
  let⟨f,s,z,@QV,rfl,t,E,rfl⟩:=c;let⟨b,@d,e,g⟩:=bt.put (a:=a) E l ⇑x;refine⟨z++b,d,⟨f,_,z,b,rfl,t,e,rfl⟩,?_⟩;rw[bA,bA];exact dT _ g
def bt.ei{a:Nat}(c:bt j y B P)(d:y[a]?=Z (Z v))(m:v.ei=X):∃u,B[a]?=Z (Z u)/\cy j v u []:=by
 let⟨u,z,@QV,e,b,W⟩:=c.out d;obtain rfl:=b.ei m;exact⟨u,e,b⟩
def MP{a:Nat}(c:B[a]?=Z (Z u)):B.set a (Z u)=B:=by
 refine oe λi=>?_;by_cases d:a=i
 ·subst d;rw[c,tX (e9.mp c).1]
 ·rw[mM d]
def bt.back{a:Nat}(c:bt j y B P)(l:cy j v u QE)(b:B[a]?=Z (Z u)):∃z QV,bt j (y.set a<|Z v) B z/\(z++QV).Perm (P++QE):=by
 have x:a<y.length:=by rw[c.len];exact (e9.mp b).1
 let⟨z,@QV,t,E⟩:=c.put (a:=a) l x;rw[MP b]at t;exact⟨z,QV,t,E⟩
def fM.of(C:pY j F)(L:∀g o J,j g=Z (.dP o J)->F g=Z (.dP o J)):fM j F:=⟨⟨C,L⟩,L⟩
def ML(j:aw):fM j j:=⟨⟨λ_ W d=>d,λ_ W W d=>d⟩,λ_ W W d=>d⟩
def fM.trans(g:fM j QB)(e:fM QB QN):fM j QN:=⟨⟨λf w d=>e.tup.t f w<|g.tup.t f w d,λf o J d=>e.dP f o J<|g.dP f o J d⟩,λf o J d=>e.dP f o J<|g.dP f o J d⟩
def bp.refl(c:Q3.Nodup)(h:∀g∈Q3,g∈P):bp j P j Q3:=⟨λ_ W d W=>d,λg a=>.inl<|h g a,c,ML j,λ_ o d=>⟨o,d⟩⟩
def bp.perm(c:P.Nodup)(q:Q3.Perm P):bp j P j Q3:=bp.refl ((q.nodup_iff).mpr c) λg a=>q.mem_iff.mp a
def bp.trans(g:bp j P QB (z++Qu))(e:bp QB z QN QV)(i:∀f∈Qu,gq QB f):bp j P QN (QV++Qu):=by
 have ao:=dk.mp g.ao;have k:∀f∈QV,f∉Qu:=λf a h=>by
  rcases e.sub f a with c|c
  ·exact ao.2.2 f c f h rfl
  ·let⟨@o,d,W⟩:=i f h;rw[d]at c;cases c
 refine⟨λf o d a=>?_,λf a=>?_,dk.mpr ⟨e.ao,ao.2.1,λf a H l d=>k f a<|d ▸ l⟩,g.tup.trans e.tup,λf o d=>let ⟨R,b⟩:=g.grow f o d;e.grow f R b⟩
 ·refine e.keep f o (g.keep f o d a) λt=>?_;rcases g.sub f (dO _ t) with c|c
  ·exact a c
  ·rw[d]at c;cases c
 ·rcases dG.mp a with a|a
  ·rcases e.sub f a with c|c
   ·exact g.sub f (dO _ c)
   ·refine .inr ?_;cases d:j f with
    |none=>rfl
    |some o=>
     let⟨@R,b⟩:=g.grow f o d;rw[b]at c;cases c
  ·exact g.sub f (dR _ a)
def cQ.tupS(h:cQ j F):fM j F:=⟨⟨λg w d=>h g _ d,λg o J d=>h g _ d⟩,λg o J d=>h g _ d⟩
def zT{g e:ak}{o J:fY}(d:j e=Z o)(c:j g=Y):L2.upd j g J e=Z o:=by rw[cU (gP d c)];exact d
def cQ.upd(h:cQ j F){g:ak}{o:fY}(c:F g=Y):cQ j (L2.upd F g o):=λe J d=>zT (h e J d) c
abbrev ay(QT:Type):=a6->Option (QT×a6)
variable{Rz:ay ai}{cZ n:ay Bool}
inductive bJ where
 | aU (a:Nat)
 | bZ (v:ai)
variable{Rj Ro:ay bJ}{L:ay (List bJ)}
def ew(y:a6):bJ->Option ai
 |.aU a=>(y[a]?).getD Y
 |.bZ v=>Z v
def hK(j:aw)(B:aW):bJ->af->List ak->Prop
 |.aU a,u,Qu=>B[a]?=Z (Z u)/\Qu=[]
 |.bZ v,u,Qu=>cy j v u Qu
def mh(L:ay ai):b2:=(λB j D=>∃y P s QQ,bt j y B P/\P.Nodup/\L y=Z (s,QQ)/\∀u F Q3 Qu,bt F QQ B Q3->cy F s u Qu->bp j P F (Q3++Qu)->D u F)
def ma(L:ay bJ):b2:=(λB j D=>∃y P s QQ,bt j y B P/\P.Nodup/\L y=Z (s,QQ)/\∀u F Q3 Qu,bt F QQ B Q3->hK F B s u Qu->bp j P F (Q3++Qu)->D u F)
def i4(L:ay Bool):dZ:=(λB j D=>∃y P e QQ,bt j y B P/\P.Nodup/\L y=Z (e,QQ)/\∀F Q3,bt F QQ B Q3->bp j P F Q3->D e F)
def cm(b:aJ)(d:bk)(L:ay ai):Prop:=(∀ ⦃q⦄,wC b d (mh L) q)
def dE(b:aJ)(d:bk)(L:ay bJ):Prop:=(∀ ⦃q⦄,wC b d (ma L) q)
def hW(b:aJ)(d:bk)(L:ay Bool):Prop:=(∀ ⦃q⦄,EG b d (i4 L) q)
def er{A QZ:b2}(c:bN b d A)(a:∀B j D,QZ B j D->A B j D):bN b d QZ:=λQ h B j D G e=>c Q h B j D G (a B j D e)
def tg{A:dZ}(c:gK b d A)(a:∀B j D,QZ B j D->A B j D):gK b d QZ:=λQ h B j D G e=>c Q h B j D G (a B j D e)
def hK.mono{s:bJ}(c:hK j B s u Qu)(A:fM j F)(n:∀g∈Qu,∀o,j g=Z o->F g=Z o):hK F B s u Qu:=by
 cases s with
 |aU a=>exact c
 |bZ v=>exact cy.mono A c n
def hK.chg{s:bJ}(c:hK j B s u Qu):∀g∈Qu,gq j g:=by
 cases s with
 |aU a=>intro g b;rw[c.2]at b;cases b
 |bZ v=>exact cy.chg c
def eO(j:aw)(v:ai)(u:af):Prop:=(∃Qu,cy j v u Qu)
def hK.read{s:bJ}(c:hK j B s u Qu)(N:bt j y B P)(d:ew y s=Z v):eO j v u:=by
 cases s with
 |bZ g=>cases d;exact⟨Qu,c⟩
 |aU a=>
  have e:y[a]?=Z (Z v):=by
   have:(y[a]?).getD Y=Z v:=d;cases p:y[a]? with
   |none=>rw[p]at this;cases this
   |some o=>rw[p]at this;rw[show o=Z v from this]
  let⟨h,z,@QV,b,f,W⟩:=N.out e;rw[c.1]at b;cases b;exact⟨z,f⟩
@[simp] def fh(a:Nat):ay ai:=λy=>match y[a]? with
 |some (Z v)=>if v.ei=X then Z (v,y) else Z (v,y.set a<|Z .dS)
 |_=>Y
def aC(v:V):ay ai:=(λy=>Z (.im v,y))
@[simp] def aj(a:Nat):ay bJ:=λy=>match y[a]? with
 |some (Z _)=>Z (.aU a,y)
 |_=>Y
@[simp] def ag(L:ay ai):ay bJ:=λy=>(L y).map λq=>(.bZ q.1,q.2)
section
variable{b:aJ}
variable{a:Nat}
def hr(c:bN b d (ni a)):cm b d (fh a):=by
 refine er c λB j D g=>?_;let⟨y,P,s,@QQ,N,ao,e,p⟩:=g;unfold fh at e;split at e
 ·rename_i v f;split at e
  ·rename_i h;cases e;let⟨@u,t,E⟩:=N.ei f h;exact⟨u,t,p u j P [] N E (by rw[cC];exact bp.perm ao (List.Perm.refl _))⟩
  ·cases e;let⟨u,z,@QV,t,E,i,k⟩:=N.out f;exact⟨u,t,p u j QV z i E<|bp.perm ao k⟩
 ·cases e
def NF(c:bN b d (ni a)):dE b d (aj a):=by
 refine er c λB j D f=>?_;let⟨y,P,s,@QQ,N,ao,e,p⟩:=f;unfold aj at e;split at e
 ·rename_i v g;cases e;let⟨u,z,@QV,t,E,h,i⟩:=N.out g;exact⟨u,t,p u j P [] N ⟨t,rfl⟩ (by rw[cC];exact bp.perm ao (List.Perm.refl _))⟩
 ·cases e
def aY{L:ay ai}(c:cm b d L):dE b d (ag L):=by
 refine er c λB j D e=>?_;let⟨y,P,s,@QQ,N,ao,a,p⟩:=e;unfold ag at a;let⟨@⟨Ra,QA⟩,t,E⟩:=cw.mp a;cases E;exact⟨y,P,Ra,_,N,ao,t,p⟩
def uc{v:V}(c:bN b d (oZ u))(a:∀j,cq j v u):cm b d (aC v):=by
 refine er c λB j D e=>?_;let⟨y,P,s,@QQ,N,ao,f,p⟩:=e;cases f;exact p u j P [] N ⟨a j,rfl⟩ (by rw[cC];exact bp.perm ao (List.Perm.refl _))
def hc{a:Int}{i QK}:cm b (.Constant (.int a) i QK) (aC<|.int a):=uc KX λ_=>rfl
def fB{e:Bool}{i QK}:cm b (.Constant (.bool e) i QK) (aC<|.ax e):=uc Py λ_=>rfl
def ti{i QK}:cm b (.Constant .none i QK) (aC .aT):=uc HR λ_=>rfl
def vD{QA Q4:a6}{f H:bJ}{Qw:af->af->aw->Prop}(N:bt j y B P)(ao:P.Nodup)(b:Ro y=Z (f,QA))(i:Rj QA=Z (H,Q4))(n:∀u J F Q3 a bS,bt F Q4 B Q3->hK F B f u a->hK F B H J bS->bp j P F ((Q3++bS)++a)->Qw u J F):ma Ro B j λu QB=>ma Rj B QB λJ QN=>Qw u J QN:=by
 refine⟨y,P,f,QA,N,ao,b,λu QB z a k Q5 e=>⟨QA,z,H,Q4,k,(dk.mp e.ao).1,i,λJ QN QV bS l Rd h=>?_⟩⟩;refine n u J QN QV a bS l (Q5.mono h.tup λg b o d=>h.keep g o d λc=>?_) Rd (e.trans h Q5.chg);exact (dk.mp e.ao).2.2 g c g b rfl
def bp.new{c:List ak}(g:bp j P QB (z++Qu))(h:cQ QB QN)(ao:c.Nodup)(e:∀f∈c,QB f=Y)(m:∀f∈z,gq QB f):bp j P QN (z++c):=by
 refine⟨λf o d a=>h _ _<|g.keep f o d a,λf a=>?_,dk.mpr ⟨(dk.mp g.ao).1,ao,λf a H i d=>?_⟩,g.tup.trans h.tupS,λf o d=>let ⟨R,b⟩:=g.grow f o d;⟨R,h _ _ b⟩⟩
 ·rcases dG.mp a with a|a
  ·exact g.sub f (dO _ a)
  ·refine .inr ?_;cases d:j f with
   |none=>rfl
   |some o=>
    let⟨@R,b⟩:=g.grow f o d;rw[e f a]at b;cases b
 ·subst d;let⟨@o,d,W⟩:=m f a;rw[e f i]at d;cases d
def eS(b:aJ)(C:ae->ae->dD ae)(Q8:ai->ai->Option ai):Prop:=(
 dI b C λf H j D=>∃Q_ Rb v,eO j Q_ f/\eO j Rb H/\Q8 Q_ Rb=Z v/\∀u F Qu,cQ j F->cy F v u Qu->Qu.Nodup->(∀g∈Qu,j g=Y)->D u F)
@[simp] def az(Q8:ai->ai->Option ai)(Ro Rj:ay bJ):ay ai:=λy=>(Ro y).bind λq=>(Rj q.2).bind λp=>(ew p.2 q.1).bind λQ_=>(ew p.2 p.1).bind λRb=>(Q8 Q_ Rb).map λv=>(v,p.2)
def s7{Q8:ai->ai->Option ai}(c:mh (az Q8 Ro Rj) B j D):
  ma Ro B j λf QB=>ma Rj B QB λH QN=>∃Q_ Rb v,eO QN Q_ f/\eO QN Rb H/\Q8 Q_ Rb=Z v/\∀u F Qu,cQ QN F->cy F v u Qu->Qu.Nodup->(∀g∈Qu,QN g=Y)->D u F:=by
 let⟨y,P,s,@QQ,N,ao,a,p⟩:=c;unfold az at a;let⟨@⟨f,QA⟩,i,a⟩:=bG.mp a;let⟨@⟨H,Q4⟩,k,a⟩:=bG.mp a;let⟨@Q_,t,a⟩:=bG.mp a;let⟨@Rb,E,a⟩:=bG.mp a;let⟨@v,m,a⟩:=cw.mp a;cases a;refine vD N ao i k λu J QN QV w bS b Q5 Rd h=>⟨Q_,Rb,_,Q5.read b t,Rd.read b E,m,λl n Qu e QU q r=>?_⟩;rw[bA]at h;exact p l n QV Qu (b.mono e.tupS λg W o d=>e g o d) QU (h.new e q r b.chg)
def hL{Q8:uM}(a:eS b (fR Q8) C)(d:dE b g Ro)(f:dE b e Rj):cm b (.BinOp g Q8 e QK) (az C Ro Rj):=
 er (K0 a d f) λ_ W W c=>s7 c
variable{Q8:jR}
def lH(a:eS b (dY Q8) C)(d:dE b g Ro)(f:dE b e Rj)(h:oP Q8 e=aq):cm b (.Compare g [Q8] [e] QK) (az C Ro Rj):=
 er (JY a d f h) λ_ W W c=>s7 c
def Lc(a:ip b (λf H j D=>∃Q_ Rb v,eO j Q_ f/\eO j Rb H/\C Q_ Rb=Z v/\∀u F Qu,cQ j F->cy F v u Qu->Qu.Nodup->(∀g∈Qu,j g=Y)->D u F))(d:dE b g Ro)(h:dE b e Rj)(Qx:rD e):cm b (.Subscript g e QK) (az C Ro Rj):=
 er (L1 a d h Qx) λ_ W W c=>s7 c
@[simp] def k9:ai->Option Bool
 |.im (.ax e)=>Z e
 |_=>Y
@[simp] def bu(L:ay ai):ay Bool:=λy=>(L y).bind λq=>(k9 q.1).map λe=>(e,q.2)
def q7{e:Bool}(c:k9 v=Z e):v=.im (.ax e):=by
 unfold k9 at c;split at c
 ·cases c;rfl
 ·cases c
def cX(a:eS b (dY Q8) C)(c:dE b g Ro)(d:dE b e Rj)(f:oP Q8 e=aq):hW b (.Compare g [Q8] [e] QK) (bu<|az C Ro Rj):=by
 refine tg (J2 a c d f) λB j D i=>?_;let⟨y,P,m,@QQ,N,ao,k,p⟩:=i;refine s7 ⟨y,P,.im<|.ax m,QQ,N,ao,?_,λu F Q3 Qu l QU h=>⟨m,QU.1,p F Q3 l (by rw[QU.2,cC]at h;exact h)⟩⟩;let⟨@q,t,E⟩:=bG.mp k;let⟨@r,n,o⟩:=cw.mp E;cases o;rw[t,<-q7 n]
@[simp] def gD(L:ay Bool):ay Bool:=λy=>(L y).map λq=>(!q.1,q.2)
variable{L:ay Bool}
def jq(c:hW b g L):hW b (.UnaryOp .Not g QK) (gD L):=by
 refine tg (PK c) λB j D a=>?_;let⟨y,P,m,@QQ,N,ao,d,p⟩:=a;let⟨@q,t,E⟩:=cw.mp d;cases E;exact⟨y,P,q.1,_,N,ao,t,p⟩
@[simp] def fu(L c:ay Bool):ay Bool:=λy=>(L y).bind λq=>if q.1=X then c q.2 else Z (aq,q.2)
@[simp] def ff(L c:ay Bool):ay Bool:=λy=>(L y).bind λq=>if q.1=X then Z (X,q.2) else c q.2
variable{D:Bool->aw->Prop}{c:ay Bool}
def B4(l:i4 (fu L c) B j D):FU (i4 L) (i4 c) B j D:=by
 let⟨y,P,m,@QQ,N,ao,d,p⟩:=l;let⟨@⟨e,QA⟩,t,E⟩:=bG.mp d;refine⟨y,P,e,QA,N,ao,t,λQB z b a=>?_⟩;cases e with
 |true=>
  rw[aE rfl];rw[aE rfl]at E;exact⟨QA,z,m,QQ,b,a.ao,E,λQN QV g h=>p QN QV g (by
   have:=bp.trans (Qu:=[]) (by rw[cC];exact a) h (λf i=>nomatch i)
   rwa [cC]at this)⟩
 |false=>
  rw[aK dv]at E ⊢;cases E;exact p QB z b a
def I0(l:i4 (ff L c) B j D):AI (i4 L) (i4 c) B j D:=by
 let⟨y,P,m,@QQ,N,ao,d,p⟩:=l;let⟨@⟨e,QA⟩,t,E⟩:=bG.mp d;refine⟨y,P,e,QA,N,ao,t,λQB z b a=>?_⟩;cases e with
 |false=>
  rw[aK dv]at E ⊢;exact⟨QA,z,m,QQ,b,a.ao,E,λQN QV g h=>p QN QV g (by
   have:=bp.trans (Qu:=[]) (by rw[cC];exact a) h (λf i=>nomatch i)
   rwa [cC]at this)⟩
 |true=>
  rw[aE rfl]at E ⊢;cases E;exact p QB z b a
def eR(b:aJ)(d:bk)(L:ay Bool):Prop:=(∀ ⦃q⦄,Dd b d (i4 L) q)
def AK{A:dZ}(c:jb b d A)(a:∀B j D,QZ B j D->A B j D):jb b d QZ:=λe Q h B j D G f=>c e Q h B j D G (a B j D f)
def qQ(c:hW b g L):eR b (.BoolOp .And [g] QK) L:=F2 c
def jB(c:hW b g L):eR b (.BoolOp .Or [g] QK) L:=Lj c
def mV(c:hW b g L)(a:eR b (.BoolOp .And (e::s) QK) n):eR b (.BoolOp .And (g::e::s) QK) (fu L n):=AK (Pd c a) λ_ W W l=>B4 l
def g4(c:hW b g L)(a:eR b (.BoolOp .Or (e::s) QK) n):eR b (.BoolOp .Or (g::e::s) QK) (ff L n):=AK (PA c a) λ_ W W l=>I0 l
def eR.gO(c:eR b d L):hW b d L:=jb.pt c
@[simp] def hu(L:ay Bool):ay ai:=λy=>(L y).map λq=>(.im<|.ax q.1,q.2)
def xt(c:cm b d (hu L)):bN b d λB j D=>i4 L B j λe F=>D (.ax e) F:=by
 refine er c λB j D a=>?_;let⟨y,P,m,@QQ,N,ao,f,p⟩:=a;refine⟨y,P,.im<|.ax m,QQ,N,ao,by unfold hu;rw[f];rfl,λu F Q3 Qu g QU h=>?_⟩;rw[show u=.ax m from QU.1];exact p F Q3 g (by rw[QU.2,cC]at h;exact h)
def BR(c:bN b d λB j D=>i4 L B j λe F=>D (.ax e) F):cm b d (hu L):=by
 refine er c λB j D a=>?_;let⟨y,P,s,@QQ,N,ao,f,p⟩:=a;let⟨@q,t,E⟩:=cw.mp f;cases E;exact⟨y,P,q.1,_,N,ao,t,λF Q3 g h=>p _ F Q3 [] g ⟨rfl,rfl⟩ (by rw[cC];exact h)⟩
def l1{L:ay ai}(c:cm b d L):cm b d (hu<|bu L):=by
 refine er c λB j D a=>?_;let⟨y,P,s,@QQ,N,ao,e,p⟩:=a;let⟨@q,t,E⟩:=cw.mp e;let⟨@f,g,h⟩:=bG.mp t;let⟨@m,i,k⟩:=cw.mp h;cases k;cases E;exact⟨y,P,f.1,_,N,ao,g,by rw[q7 i];exact p⟩
def Jv(c:cm b g (hu L)):cm b (.UnaryOp .Not g QK) (hu<|gD L):=by
 refine BR (er (LS<|xt c) λB j D a=>?_);let⟨y,P,m,@QQ,N,ao,d,p⟩:=a;let⟨@q,t,E⟩:=cw.mp d;cases E;exact⟨y,P,q.1,_,N,ao,t,λF Q3 e h=>⟨_,rfl,p F Q3 e h⟩⟩
def ve{Q8}{L:ay ai}(c:cm b g L):cm b (.BoolOp Q8 [g] QK) L:=KZ c
def sd(c:cm b g (hu L))(a:cm b (.BoolOp .And (e::s) QK) (hu n)):cm b (.BoolOp .And (g::e::s) QK) (hu<|fu L n):=by
 refine BR (er (JS (xt c)<|xt a) λB j D l=>?_);have:=B4 l;let⟨y,P,m,@QQ,N,ao,d,p⟩:=this;exact⟨y,P,m,QQ,N,ao,d,λF Q3 f h=>⟨m,rfl,p F Q3 f h⟩⟩
@[simp] def wU(m:ay Bool)(g e:ay ai):ay ai:=λy=>(m y).bind λq=>if q.1=X then g q.2 else e q.2
def bp.seq(g:bp j P QB z)(e:bp QB z QN QV):bp j P QN QV:=by
 have:=bp.trans (Qu:=[]) (by rw[cC];exact g) e (λf a=>nomatch a)
 rwa [cC]at this
def Ll{Ro Rj:ay ai}(h:hW b m cZ)(i:cm b g Ro)(k:cm b e Rj):cm b (.IfExp m g e QK) (wU cZ Ro Rj):=by
 refine er (Ik h i k) λB j D l=>?_;let⟨y,P,s,@QQ,N,ao,n,p⟩:=l;let⟨@⟨A,QA⟩,t,E⟩:=bG.mp n;refine⟨y,P,A,QA,N,ao,t,λQB z f a=>?_⟩;cases A with
 |true=>
  rw[aE rfl]at E ⊢;exact⟨QA,z,s,QQ,f,a.ao,E,λu QN QV Qu c QU d=>p u QN QV Qu c QU<|a.seq d⟩
 |false=>
  rw[aK dv]at E ⊢;exact⟨QA,z,s,QQ,f,a.ao,E,λu QN QV Qu c QU d=>p u QN QV Qu c QU<|a.seq d⟩
end
def ka(j:aw)(B:aW):List bJ->List af->List ak->Prop
 |[],U,Qu=>U=[]/\Qu=[]
 |o::M,U,Qu=>∃u s a bS,U=u::s/\hK j B o u a/\ka j B M s bS/\Qu=a++bS
def gw(L:ay (List bJ)):eW:=(λB j D=>∃y P s QQ,bt j y B P/\P.Nodup/\L y=Z (s,QQ)/\∀U F Q3 Qu,bt F QQ B Q3->ka F B s U Qu->bp j P F (Q3++Qu)->D U F)
def fv(b:aJ)(Qs:List bk)(L:ay (List bJ)):Prop:=(∀ ⦃q⦄,CP b Qs (gw L) q)
def Ab{A QZ:eW}(c:ho b Qs A)(a:∀B j D,QZ B j D->A B j D):ho b Qs QZ:=λQK Q h B j D G d=>c QK Q h B j D G (a B j D d)
def aF:ay (List bJ):=(λy=>Z ([],y))
@[simp] def ar(L:ay bJ)(c:ay (List bJ)):ay (List bJ):=λy=>(L y).bind λq=>(c q.2).map λp=>(q.1::p.1,p.2)
def bp.kW(h:bp j P F O)(q:O.Perm QO):bp j P F QO:=⟨h.keep,λg a=>h.sub g<|q.mem_iff.mpr a,(q.nodup_iff).mp h.ao,h.tup,h.grow⟩
def bp.less(h:bp j P F O)(q:(QO++aL).Perm O):bp j P F QO:=
 ⟨h.keep,λg a=>h.sub g<|q.mem_iff.mp<|dO _ a,(dk.mp<|(q.nodup_iff).mpr h.ao).1,h.tup,h.grow⟩
section
variable{b:aJ}
def lL:fv b [] aF:=by
 refine Ab Ek λB j D a=>?_;let⟨y,P,s,@QQ,N,ao,c,p⟩:=a;cases c;exact p [] j P [] N ⟨rfl,rfl⟩ (by rw[cC];exact bp.perm ao (List.Perm.refl _))
def g0{L:ay bJ}{c:ay (List bJ)}(i:dE b d L)(k:fv b Qs c)(Qx:bQ (d::Qs) b.env=(aq,b8 d b.env)::bQ Qs b.env:=by rfl):fv b (d::Qs) (ar L c):=by
 refine Ab (xe i k Qx) λB j D l=>?_;let⟨y,P,s,@QQ,N,ao,m,p⟩:=l;let⟨@⟨f,QA⟩,t,E⟩:=bG.mp m;let⟨@⟨QJ,Q4⟩,n,q⟩:=cw.mp E;cases q;refine⟨y,P,f,QA,N,ao,t,λu QB z h r Q5 a=>⟨QA,z,QJ,_,r,(dk.mp a.ao).1,n,λU QN QV bS v Rd e=>?_⟩⟩;refine p (u::U) QN QV (h++bS) v ⟨u,U,h,bS,rfl,Q5.mono e.tup λg w o d=>e.keep g o d λc=>?_,Rd,rfl⟩ ((a.trans e Q5.chg).kW ?_)
 ·exact (dk.mp a.ao).2.2 g c g w rfl
 ·rw[bA];exact dT _ c6
end
def gA(y:a6):List bJ->Option (List ai)
 |[]=>Z []
 |o::M=>(ew y o).bind λv=>(gA y M).map λI=>v::I
def l0(j:aw):List ai->List af->Prop
 |[],U=>U=[]
 |v::I,U=>∃u s,U=u::s/\eO j v u/\l0 j I s
theorem ka.read{j:aw}{y:a6}{B:aW}{P:List ak}(N:bt j y B P):∀{M:List bJ}{U:List af}{Qu:List ak}{I:List ai},ka j B M U Qu->gA y M=Z I->l0 j I U
 |[],_,_,_,c,d=>by cases d;exact c.1
 |o::M,_,_,_,c,d=>by
  let⟨u,s,g,@bS,rfl,t,E,rfl⟩:=c;let⟨@v,a,b⟩:=bG.mp d;let⟨@I,e,f⟩:=cw.mp b;cases f;exact⟨u,s,rfl,t.read N a,ka.read N E e⟩
def e3:List bJ->a6->Option (List ai×a6)
 |[],y=>Z ([],y)
 |.bZ v::M,y=>(e3 M y).map λq=>(v::q.1,q.2)
 |.aU a::M,y=>(fh a y).bind λq=>(e3 M q.2).map λp=>(q.1::p.1,p.2)
def z6{a:Nat}(N:bt j y B P)(c:fh a y=Z (v,QQ)):∃u z Qu,B[a]?=Z (Z u)/\cy j v u Qu/\bt j QQ B z/\(z++Qu).Perm P:=by
 unfold fh at c;split at c
 ·rename_i d b;split at c
  ·rename_i e;cases c;let⟨@u,t,E⟩:=N.ei b e;exact⟨u,P,[],t,E,N,by rw[cC]⟩
  ·cases c;let⟨u,z,@QV,t,E,f,g⟩:=N.out b;exact⟨u,QV,z,t,E,f,g⟩
 ·cases c
def j0:(O++(QO++aL)).Perm (QO++(O++aL)):=by
 rw[<-bA,<-bA];exact e8 _ c6
theorem nM{j:aw}{B:aW}:∀{M:List bJ}{U:List af}{Qu P:List ak}{y QQ:a6}{I:List ai},bt j y B P->ka j B M U Qu->e3 M y=Z (I,QQ)->∃z b,bt j QQ B z/\dU j I U b/\(z++b).Perm (P++Qu)
 |[],_,_,P,_,_,_,N,c,d=>by
  cases d;exact⟨P,[],N,⟨c.1,rfl⟩,by rw[c.2]⟩
 |.bZ v::M,_,_,P,y,_,_,N,c,d=>by
  let⟨u,s,b,@bS,rfl,t,E,rfl⟩:=c;rw[e3]at d;let⟨@q,g,h⟩:=cw.mp d;cases h;let⟨z,@e,f,i,k⟩:=nM (QQ:=q.2) (I:=q.1) N E g;exact⟨z,b++e,f,⟨u,s,b,e,rfl,t,i,rfl⟩,j0.trans<|(dT _ k).trans j0⟩
 |.aU a::M,_,_,P,y,_,_,N,c,d=>by
  let⟨u,s,b,@bS,rfl,@⟨t,rfl⟩,E,rfl⟩:=c;rw[e3]at d;let⟨@⟨v,QA⟩,m,n⟩:=bG.mp d;let⟨@q,g,h⟩:=cw.mp n;cases h;let⟨r,z,@e,f,i,k,o⟩:=z6 N m;rw[t]at f;cases f;let⟨QV,@l,Q0,Q6,p⟩:=nM (QQ:=q.2) (I:=q.1) k E g;refine⟨QV,e++l,Q0,⟨u,s,e,l,rfl,i,Q6,rfl⟩,j0.trans<|(dT _ p).trans ?_⟩;rw[<-bA];exact e8 _ (c6.trans o)
@[simp] def iu:List bJ->List ai->a6->a6
 |.aU a::M,v::I,y=>iu M I (match y[a]? with|some (Z .dS)=>y.set a (Z v)|_=>y)
 |.bZ _::M,_::I,y=>iu M I y
 |_,_,y=>y
theorem tA{j k:aw}{B:aW}:∀{M:List bJ}{I:List ai}{U:List af}{Qu P QI:List ak}{y:a6},bt j y B P->ka k B M U QI->dU j I U Qu->∃z b,bt j (iu M I y) B z/\(z++b).Perm (P++Qu)
 |[],I,_,Qu,P,_,y,N,_,_=>⟨P,Qu,by unfold iu;exact N,List.Perm.refl _⟩
 |.bZ _::M,[],_,Qu,P,_,y,N,_,_=>⟨P,Qu,by unfold iu;exact N,List.Perm.refl _⟩
 |.aU _::M,[],_,Qu,P,_,y,N,_,_=>⟨P,Qu,by unfold iu;exact N,List.Perm.refl _⟩
 |.bZ _::M,v::I,_,Qu,P,_,y,N,c,l=>by
  let⟨u,s,m,@n,rfl,t,E,rfl⟩:=c;let⟨o,Ra,b,@bS,d,i,h,rfl⟩:=l;cases d;let⟨z,@e,f,g⟩:=tA (y:=y) N E h;refine⟨z,b++e,by rw[iu];exact f,j0.trans<|(dT _ g).trans j0⟩
 |.aU a::M,v::I,_,Qu,P,_,y,N,c,l=>by
  let⟨u,s,m,@n,rfl,@⟨t,W⟩,E,rfl⟩:=c;let⟨o,Ra,b,@bS,d,i,h,rfl⟩:=l;cases d;rw[iu];split
  ·let⟨z,@QE,f,g⟩:=N.back i t;let⟨QV,@e,Q0,Q6⟩:=tA f E h;refine⟨QV,e++QE,Q0,?_⟩;rw[<-bA,<-bA];refine (e8 _ Q6).trans ?_;rw[bA];refine (dT _ c6).trans ?_;rw[<-bA];exact e8 _ g
  ·let⟨z,@e,f,g⟩:=tA N E h;exact⟨z,b++e,f,j0.trans<|(dT _ g).trans j0⟩
def hs:List ai->Option (List V)
 |[]=>Z []
 |.im v::I=>(hs I).map λs=>v::s
 |_::_=>Y
@[simp] def tG(I:List ai):ai:=match hs I with
 |some is=>.im (.tup is)
 |none=>.ov I
@[simp] def ue(I:List ai):ai:=match hs I with
 |some is=>.lst is
 |none=>.hU I
theorem yq{j:aw}:∀{I:List ai}{U:List af}{Qu:List ak}{is:List V},dU j I U Qu->hs I=Z is->bx j is U/\Qu=[]
 |[],_,_,_,c,d=>by cases d;exact c
 |.im v::I,_,_,_,c,d=>by
  let⟨u,s,g,@bS,rfl,@⟨t,rfl⟩,E,rfl⟩:=c;rw[hs]at d;let⟨@q,b,e⟩:=cw.mp d;cases e;let@⟨f,rfl⟩:=yq E b;exact⟨⟨u,s,rfl,t,f⟩,rfl⟩
 |.dS::_,_,_,_,_,d=>by rw[hs]at d;cases d;all_goals (intro W a;cases a)
 |.cS _::_,_,_,_,_,d=>by rw[hs]at d;cases d;all_goals (intro W a;cases a)
 |.lst _::_,_,_,_,_,d=>by rw[hs]at d;cases d;all_goals (intro W a;cases a)
 |.dn _::_,_,_,_,_,d=>by rw[hs]at d;cases d;all_goals (intro W a;cases a)
 |.aH _::_,_,_,_,_,d=>by rw[hs]at d;cases d;all_goals (intro W a;cases a)
 |.hU _::_,_,_,_,_,d=>by rw[hs]at d;cases d;all_goals (intro W a;cases a)
 |.ov _::_,_,_,_,_,d=>by rw[hs]at d;cases d;all_goals (intro W a;cases a)
@[simp] def dA(L:ay (List bJ)):ay ai:=λy=>(L y).bind λq=>(e3 q.1 q.2).bind λp=>if p.1.length<=100000 then Z (tG p.1,p.2) else Y
@[simp] def eu(L:ay (List bJ)):ay ai:=λy=>(L y).bind λq=>(e3 q.1 q.2).bind λp=>if p.1.length<=100000 then Z (ue p.1,p.2) else Y
def KC{I:List ai}{q:ak}(h:cQ j F)(c:dU j I U Qu)(d:F q=Z (.tup U)):∃a,cy F (tG I) (.ref q) a/\a=Qu:=by
 unfold tG;split
 ·rename_i is S;let@⟨b,rfl⟩:=yq c S;exact⟨[],⟨⟨q,U,rfl,d,b.mono h.tupS.tup⟩,rfl⟩,rfl⟩
 ·exact⟨Qu,⟨q,U,rfl,d,c.mono h.tupS λg W o p=>h g o p⟩,rfl⟩
def KU{I:List ai}{q:ak}(h:cQ j F)(c:dU j I U Qu)(d:F q=Z (.lst U)):cy F (ue I) (.ref q) (q::Qu):=by
 unfold ue;split
 ·rename_i is S;let@⟨a,rfl⟩:=yq c S;exact⟨q,U,rfl,d,a.mono h.tupS.tup,rfl⟩
 ·exact⟨q,U,Qu,rfl,d,c.mono h.tupS λg W o p=>h g o p,rfl⟩
def mQ(c:r<=100000):r<=sizeLine:=eG c ∅
def bp.add{q:ak}{o:fY}(g:bp j P QB O)(a:QB q=Y)(m:∀f∈O,gq QB f):bp j P (upd QB q o) (O++[q]):=by
 have h:cQ QB (upd QB q o):=(cQ.refl QB).upd a;have:=bp.new (Qu:=[]) (c:=[q]) (by rw[cC];exact g) h (eY _ _) (λf b=>by rw[cK.mp b];exact a) m;exact this
def bp.same(g:bp j P QB O)(h:cQ QB QN):bp j P QN O:=
 ⟨λf o d a=>h _ _<|g.keep f o d a,g.sub,g.ao,g.tup.trans h.tupS,λf o d=>let ⟨R,b⟩:=g.grow f o d;⟨R,h _ _ b⟩⟩
section
variable{b:aJ}
def i5{e}(c:fv b Qs L):cm b (.Tuple Qs e QK) (dA L):=by
 refine er (NO c) λB j D f=>?_;let⟨y,P,s,@QQ,N,ao,i,p⟩:=f;let⟨@⟨M,QA⟩,t,E⟩:=bG.mp i;let⟨@⟨I,Q4⟩,k,a⟩:=bG.mp E;refine⟨y,P,M,QA,N,ao,t,λU QB z A l Q5 m=>?_⟩;let⟨QV,@bS,n,QU,T⟩:=nM l Q5 k;split at a
 ·rename_i r;cases a;have u:U.length<=100000:=by rw[<-QU.length];exact r
  refine⟨mQ u,λq v=>?_⟩;have h:cQ QB (upd QB q<|.tup U):=(cQ.refl QB).upd v;let⟨@w,x,rfl⟩:=KC h QU fa;exact p _ _ QV w (n.mono h.tupS λg W o d=>h g o d) x ((m.kW T.symm).same h)
 ·cases a
def f5(c:fv b Qs L):cm b (.List Qs QK) (eu L):=by
 refine er (PH c) λB j D l=>?_;let⟨y,P,s,@QQ,N,ao,m,p⟩:=l;let⟨@⟨M,QA⟩,t,E⟩:=bG.mp m;let⟨@⟨I,Q4⟩,n,e⟩:=bG.mp E;refine⟨y,P,M,QA,N,ao,t,λU QB z A r Q5 u=>?_⟩;let⟨QV,@bS,i,QU,T⟩:=nM r Q5 n;split at e
 ·rename_i v;cases e;have w:U.length<=100000:=by rw[<-QU.length];exact v
  refine⟨mQ w,λq k=>?_⟩;have h:cQ QB (upd QB q<|.lst U):=(cQ.refl QB).upd k;have x:=KU h QU (q:=q) fa;refine p _ _ QV (q::bS) (i.mono h.tupS λg W o d=>h g o d) x (((u.kW T.symm).add k λf a=>?_).kW ?_)
  ·rcases dG.mp a with a|a
   ·exact i.chg f a
   ·exact QU.chg f a
  ·rw[bA];exact dT _ c6
 ·cases e
def g8(b:aJ)(C:ae)(Q8:List ai->Option ai):Prop:=(
 ep b C λw j D=>∃I v,l0 j I w/\Q8 I=Z v/\∀u F Qu,cQ j F->cy F v u Qu->Qu.Nodup->(∀g∈Qu,j g=Y)->D u F)
@[simp] def b9(Q8:List ai->Option ai)(L:ay (List bJ)):ay ai:=λy=>(L y).bind λq=>(gA q.2 q.1).bind λI=>(Q8 I).map λv=>(v,q.2)
def CH(c:mh (b9 Q8 L) B j D):
  gw L B j λw QB=>∃I v,l0 QB I w/\Q8 I=Z v/\∀u F Qu,cQ QB F->cy F v u Qu->Qu.Nodup->(∀g∈Qu,QB g=Y)->D u F:=by
 let⟨y,P,s,@QQ,N,ao,e,p⟩:=c;let⟨@⟨M,QA⟩,t,E⟩:=bG.mp e;let⟨@I,f,h⟩:=bG.mp E;let⟨@v,i,k⟩:=cw.mp h;cases k;refine⟨y,P,M,QA,N,ao,t,λU QB z q a Q5 l=>⟨I,_,Q5.read a f,i,λu QN Qu b QU m n=>?_⟩⟩;exact p u QN z Qu (a.mono b.tupS λg W o d=>b g o d) QU (l.new b m n a.chg)
def I9{id:String}(a:g8 b (.builtin id) Q8)(e:d3 b f)(g:b.aI f=Y)(h:ez f=Z (.builtin id))(i:fv b (d::Qs) L)(j:f ≠ "__name__" := by decide)(k:(f==("__debug__" : aB))=aq:=by decide)(l:bQ (d::Qs) b.env=(aq,b8 d b.env)::bQ Qs b.env:=by rfl)(m:(gh QK<|bQ Qs b.env).any (·.1)=aq:=by rfl):
  cm b (.Call (.Name f q) (d::Qs) [] QK) (b9 Q8 L):=er (B5 a e g h i j k l m) λ_ W W c=>CH c
def iH{Qq:String}(a:g8 b (.type Qq) Q8)(e:d3 b f)(g:b.aI f=Y)(h:ez f=Z (.type Qq))(i:fv b (d::Qs) L)(j:f ≠ "__name__" := by decide)(k:(f==("__debug__" : aB))=aq:=by decide)(l:bQ (d::Qs) b.env=(aq,b8 d b.env)::bQ Qs b.env:=by rfl)(m:(gh QK<|bQ Qs b.env).any (·.1)=aq:=by rfl):
  cm b (.Call (.Name f q) (d::Qs) [] QK) (b9 Q8 L):=er (N6 a e g h i j k l m) λ_ W W c=>CH c
abbrev dH:=List ai->Option (ai×List ai)
def jY(r:Nat)(QE:dH):cG:=(λU j D W=>U.length=r/\∃I P s G,dU j I U P/\P.Nodup/\QE I=Z (s,G)/\∀u F Qu a,cy F s u Qu->dU F G U a->bp j P F (Qu++a)->D u F)
@[simp] def bT(r:Nat)(QE:dH)(L:ay (List bJ)):ay ai:=λy=>(L y).bind λq=>if q.1.length=r then (e3 q.1 q.2).bind λp=>(QE p.1).map λs=>(s.1,iu q.1 s.2 p.2) else Y
theorem ka.length{j:aw}{B:aW}:∀{M:List bJ}{U:List af}{Qu:List ak},ka j B M U Qu->M.length=U.length
 |[],_,_,c=>by rw[c.1];rfl
 |o::M,_,_,c=>by
  let⟨u,s,a,@bS,rfl,t,E,rfl⟩:=c;rw[ey,ey,ka.length E]
def Kl{QE:dH}{Qt:gs}(c:mh (bT r QE L) B j D):Dz (jY r QE) [] Qt (gw L) B j D:=by
 let⟨y,P,s,@QQ,N,ao,i,p⟩:=c;let⟨@⟨M,QA⟩,t,E⟩:=bG.mp i;split at E
 ·rename_i k;let⟨@⟨I,Q4⟩,l,m⟩:=bG.mp E;let⟨@⟨Ra,G⟩,n,q⟩:=cw.mp m;cases q;refine⟨y,P,M,QA,N,ao,t,λU QB z al v Q5 w=>?_⟩;let⟨QV,bS,f,QU,T⟩:=nM v Q5 l;have a:=w.kW (T.symm.trans c6);rw[cC];refine⟨by rw[<-Q5.length];exact k,I,bS,_,G,QU,(dk.mp a.ao).1,n,λu h Qu am x A b=>?_⟩;have C:=a.trans b f.chg;have F:∀g∈QV,g∉bS:=λg e H=>(dk.mp a.ao).2.2 g H g e rfl;have J:bt h Q4 B QV:=f.mono b.tup λg e o d=>b.keep g o d (F g e);let⟨O,@Q,R,S⟩:=tA J Q5 A;refine p u h O Qu R x (C.less (aL:=Q) ?_);refine List.Perm.trans ?_ c6;rw[bA];refine (dT _ c6).trans ?_;rw[<-bA];refine (e8 _ S).trans ?_;rw[bA];exact dT _ c6
 ·cases E
variable{n:Nat}
def Ni{QE:dH}{C:ak}(P:iz b.prog b.w b.K b.aI b.base hT n C fd QF (jY r QE))(a:eD n b.A)(e:d3 b f)(g:b.aI f=Z (.ref C))(h:Θ b.K (.ref C)=X)(i:ik b.K fd QF [])(j:fv b (d::Qs) L)(k:(f==("__debug__" : aB))=aq:=by decide)(m:bQ (d::Qs) b.env=(aq,b8 d b.env)::bQ Qs b.env:=by rfl)(o:(gh QK<|bQ Qs b.env).any (·.1)=aq:=by rfl):
  cm b (.Call (.Name f q) (d::Qs) [] QK) (bT r QE L):=er (IM P a e g h i .nil K6 j k m o) λ_ U U c=>Kl c
inductive mf where
 | bg|et (v:ai)|eL|bW
abbrev bP:=a6->Option (mf×a6)
def dz(QX:List Nat)(B b:aW):Prop:=(b.length=B.length/\∀a∈QX,b[a]?=B[a]?)
def dz.refl:dz QX B B:=⟨rfl,λ_ W=>rfl⟩
def dz.trans{b:aW}(g:dz QX B Ry)(e:dz QX Ry b):dz QX B b:=⟨e.1.trans g.1,λa S=>(e.2 a S).trans<|g.2 a S⟩
def dz.set{i:Nat}{u:Option af}(c:i∉QX):dz QX B (B.set i u):=⟨wk,λa S=>mM λd=>c (by rw[d];exact S)⟩
def pK(QX:List Nat)(Qt:m5)(B:aW)(j:aw)(P:List ak)(QQ:a6):mf->Prop
 |.bg=>∀a F Q3,dz QX B a->bt F QQ a Q3->bp j P F Q3->Qt.bg a F
 |.eL=>∀a F Q3,dz QX B a->bt F QQ a Q3->bp j P F Q3->Qt.eL a F
 |.bW=>∀a F Q3,dz QX B a->bt F QQ a Q3->bp j P F Q3->Qt.bW a F
 |.et v=>∀u a F Q3 Qu,dz QX B a->bt F QQ a Q3->cy F v u Qu->bp j P F (Q3++Qu)->Qt.et u F
def nS(QX:List Nat)(L:bP):eN:=(λQt B j=>∃y P aR QQ,bt j y B P/\P.Nodup/\L y=Z (aR,QQ)/\pK QX Qt B j P QQ aR)
def iy(b:aJ)(QX:List Nat)(N:cF)(L:bP):Prop:=(∀ ⦃q⦄,Ej b N (nS QX L) q)
def i1(b:aJ)(QX:List Nat)(a:List cF)(L:bP):Prop:=(∀ ⦃q⦄,Ed b a (nS QX L) q)
variable{QZ:eN}
def kR{A:eN}(c:hz b N A)(a:∀Qt B j,QZ Qt B j->A Qt B j):hz b N QZ:=λQ h B j y G d=>c Q h B j y G (a y B j d)
def EY{N:List cF}{A:eN}(c:hk b N A)(a:∀Qt B j,QZ Qt B j->A Qt B j):hk b N QZ:=λQ h B j y G d=>c Q h B j y G (a y B j d)
def pK.on{aR:mf}(c:pK QX Qt B j P QQ aR)(Ri:dz QX B Ry)(h:bp j P QB z):pK QX Qt Ry QB z QQ aR:=by
 cases aR with
 |bg=>exact λa F Q3 C N Qp=>c a F Q3 (Ri.trans C) N (h.seq Qp)
 |eL=>exact λa F Q3 C N Qp=>c a F Q3 (Ri.trans C) N (h.seq Qp)
 |bW=>exact λa F Q3 C N Qp=>c a F Q3 (Ri.trans C) N (h.seq Qp)
 |et v=>exact λu a F Q3 Qu C N QU Qp=>c u a F Q3 Qu (Ri.trans C) N QU (h.seq Qp)
def d6:bP:=(λy=>Z (.bg,y))
@[simp] def bC(L c:bP):bP:=λy=>(L y).bind λq=>match q.1 with
 |.bg=>c q.2
 |aR=>Z (aR,q.2)
def eI:i1 b QX [] d6:=by
 refine EY Ku λQt B j a=>?_;let⟨y,P,aR,@QQ,N,ao,c,p⟩:=a;cases c;exact p B j P dz.refl N (bp.perm ao<|List.Perm.refl _)
variable{L:bP}
def b3(c:iy b QX N L):i1 b QX [N] L:=LC c
def L3{c:bP}(l:nS QX (bC L c) Qt B j):zr (nS QX L) (nS QX c) Qt B j:=by
 let⟨y,P,aR,@QQ,N,ao,a,p⟩:=l;let⟨@⟨b,QA⟩,t,E⟩:=bG.mp a;cases b with
 |bg=>exact⟨y,P,.bg,QA,N,ao,t,λe F Q3 Ri d h=>⟨QA,Q3,aR,QQ,d,h.ao,E,p.on Ri h⟩⟩
 |eL=>cases E;exact⟨y,P,.eL,QA,N,ao,t,p⟩
 |bW=>cases E;exact⟨y,P,.bW,QA,N,ao,t,p⟩
 |et v=>cases E;exact⟨y,P,.et v,QA,N,ao,t,p⟩
def bO{a:List cF}{c:bP}(t:iy b QX N L)(E:i1 b QX a c):i1 b QX (N::a) (bC L c):=EY (F8 t E) λ_ W W l=>L3 l
def Fu:bP:=(λ_=>Y)
def KD:iy b QX N Fu:=kR Pg λ_ _ _ ⟨_,_,_,_,_,_,c,_⟩=>by cases c
@[simp] def kc(L:ay ai):bP:=λy=>(L y).map λq=>(.bg,q.2)
variable{L:ay ai}
def m3(c:cm b d L)(Qx:mE d Y QK.line b.env=pure aq:=by rfl):iy b QX (.Expr d QK) (kc L):=by
 refine kR (LG c Qx) λQt B j a=>?_;let⟨y,P,aR,@QQ,N,ao,e,p⟩:=a;let⟨@⟨s,QA⟩,t,E⟩:=cw.mp e;cases E;exact⟨y,P,s,_,N,ao,t,λu F Q3 Qu f QU h=>p B F Q3 dz.refl f<|h.less<|List.Perm.refl _⟩
@[simp] def c8(L:ay ai):bP:=λy=>(L y).map λq=>(.et q.1,q.2)
def dt(c:cm b d L):iy b QX (.Return (Z d) QK) (c8 L):=by
 refine kR (K2 c) λQt B j a=>?_;let⟨y,P,aR,@QQ,N,ao,e,p⟩:=a;let⟨@⟨s,QA⟩,t,E⟩:=cw.mp e;cases E;exact⟨y,P,s,_,N,ao,t,λu F Q3 Qu f QU h=>p u B F Q3 Qu dz.refl f QU h⟩
@[simp] def df(m:ay Bool)(g e:bP):bP:=λy=>(m y).bind λq=>if q.1=X then g q.2 else e q.2
variable{Rj:bP}
def el{g e:List cF}{Ro:bP}(d:hW b m cZ)(f:i1 b QX g Ro)(h:i1 b QX e Rj):iy b QX (.If m g e QK) (df cZ Ro Rj):=by
 refine kR (Hr d f h) λQt B j i=>?_;let⟨y,P,aR,@QQ,N,ao,k,p⟩:=i;let⟨@⟨A,QA⟩,t,E⟩:=bG.mp k;refine⟨y,P,A,QA,N,ao,t,λQB z c a=>?_⟩;cases A with
 |true=>
  rw[aE rfl]at E ⊢;exact⟨QA,z,aR,QQ,c,a.ao,E,p.on dz.refl a⟩
 |false=>
  rw[aK dv]at E ⊢;exact⟨QA,z,aR,QQ,c,a.ao,E,p.on dz.refl a⟩
@[simp] def bV(a:Nat)(L:ay ai):bP:=λy=>(L y).bind λq=>if a<q.2.length then Z (.bg,q.2.set a<|Z q.1) else Y
variable{a:Nat}
def nT{i:Pos}(c:b.N.Nodup)(S:b.N[a]?=Z f)(e:jh b.env.scope f)(g:cm b d L)(h:a∉QX)(Qx:mE d (Z<|.Name f i) QK.line b.env=pure aq:=by rfl)(k:b.fn f=X\/b.env.scope.names.lookup f=Z .local:=by first|exact .inl rfl|exact .inr rfl|assumption):iy b QX (.Assign [.Name f i] d QK) (bV a L):=by
 refine kR (OF c S e g Qx k) λQt B j l=>?_;let⟨y,P,aR,@QQ,N,ao,m,p⟩:=l;let⟨@⟨s,QA⟩,t,E⟩:=bG.mp m;split at E
 ·rename_i n;cases E;refine⟨y,P,s,_,N,ao,t,λu QB z Qu o QU q=>?_⟩;let⟨QV,@bS,r,T⟩:=o.put (a:=a) QU n;exact p _ QB QV (dz.set h) r (q.less T)
 ·cases E
abbrev fg:=ai->a6->Option a6
def yB(QX:List Nat)(L:fg):fV:=(λu B j D=>∃y P v Qu QQ,bt j y B P/\cy j v u Qu/\(P++Qu).Nodup/\L v y=Z QQ/\∀a F Q3,dz QX B a->bt F QQ a Q3->bp j (P++Qu) F Q3->D a F)
def gS(b:aJ)(QX:List Nat)(d:bk)(L:fg):Prop:=(∀ ⦃q⦄,Dn b d (yB QX L) q)
def s8{A QZ:fV}(c:iD b d A)(a:∀u B j D,QZ u B j D->A u B j D):iD b d QZ:=λQ h B j f u D G s e=>c Q h B j f u D G s (a f B j D e)
@[simp] def bH(a:Nat):fg:=λv y=>if a<y.length then Z (y.set a<|Z v) else Y
def tJ(d:b.N.Nodup)(S:b.N[a]?=Z f)(e:jh b.env.scope f)(g:a∉QX)(h:b.fn f=X\/b.env.scope.names.lookup f=Z .local:=by first|exact .inl rfl|exact .inr rfl|assumption):gS b QX (.Name f QK) (bH a):=by
 refine s8 (HI d S e h) λu B j D i=>?_;let⟨y,P,v,Qu,@QQ,N,QU,ao,c,p⟩:=i;unfold bH at c;split at c
 ·rename_i k;cases c;let⟨QV,@bS,l,T⟩:=N.put (a:=a) QU k;exact p _ j QV (dz.set g) l ((bp.perm ao<|List.Perm.refl _).less T)
 ·cases c
def PG(QX:List Nat)(L:List ai->a6->Option a6):iR:=(λU B j D=>∃y P I Qu QQ,bt j y B P/\dU j I U Qu/\(P++Qu).Nodup/\L I y=Z QQ/\∀a F Q3,dz QX B a->bt F QQ a Q3->bp j (P++Qu) F Q3->D a F)
def q3(b:aJ)(QX:List Nat)(Qs:List bk)(L:List ai->a6->Option a6):Prop:=(∀ ⦃q⦄,Cs b Qs (PG QX L) q)
@[simp] def mU:List ai->a6->Option a6
 |[],y=>Z y
 |_,_=>Y
@[simp] def iw(L:fg)(c:List ai->a6->Option a6):List ai->a6->Option a6
 |v::I,y=>(L v y).bind (c I)
 |_,_=>Y
def z2{A QZ:iR}(c:nx b Qs A)(a:∀u B j D,QZ u B j D->A u B j D):nx b Qs QZ:=λQ h B j w U D G s d=>c Q h B j w U D G s (a w B j D d)
def Cm:q3 b QX [] mU:=by
 refine z2 KS λU B j D c=>?_;let⟨y,P,I,Qu,@QQ,N,QU,ao,a,p⟩:=c;cases I with
 |cons v I=>cases a
 |nil=>
  cases a;exact⟨QU.1,p B j P dz.refl N<|(bp.perm ao<|List.Perm.refl _).less<|List.Perm.refl _⟩
def tn{L:fg}(t:gS b QX d L)(E:q3 b QX Qs c)(Qx:(eV (d::Qs) b.env).map (·.2)=hC d b.env::(eV Qs b.env).map (·.2):=by rfl):q3 b QX (d::Qs) (iw L c):=by
 refine z2 (Hy t E Qx) λU B j D r=>?_;let⟨y,P,I,Qu,@QQ,N,QU,ao,l,p⟩:=r;cases I with
 |nil=>cases l
 |cons v I=>
  let⟨u,s,h,@bS,rfl,w,m,rfl⟩:=QU;let⟨@QA,x,A⟩:=bG.mp (show (L v y).bind (c I)=Z QQ from l);have k:((P++h)++bS).Nodup:=by rw[bA];exact ao
  refine⟨u,s,rfl,y,P,v,h,QA,N,w,(dk.mp k).1,x,λRy QB z Ri C f=>?_⟩;have n:∀g∈bS,g∉P++h:=λg a i=>(dk.mp k).2.2 g i g a rfl;have F:dU QB I s bS:=m.mono f.tup λg a o d=>f.keep g o d (n g a);have q:bp j (P++(h++bS)) QB (z++bS):=by
   refine⟨λg o d a=>f.keep g o d λc=>a ?_,λg a=>?_,dk.mpr ⟨f.ao,(dk.mp k).2.1,λg a e i d=>?_⟩,f.tup,f.grow⟩
   ·rw[<-bA];exact dO _ c
   ·rcases dG.mp a with a|a
    ·rcases f.sub g a with c|c
     ·left;rw[<-bA];exact dO _ c
     ·exact .inr c
    ·left;rw[<-bA];exact dR _ a
   ·subst d;rcases f.sub g a with c|c
    ·exact n g i c
    ·let⟨@o,d,W⟩:=m.chg g i;rw[d]at c;cases c
  exact⟨QA,z,I,bS,QQ,C,F,q.ao,A,λG QN QV H J M=>p G QN QV (Ri.trans H) J<|q.seq M⟩
@[simp] def og(r:Nat)(c:List ai->a6->Option a6):fg:=λv y=>match v with
 |.im (.tup is)=>if is.length=r then c (is.map .im) y else Y
 |.ov I=>if I.length=r then c I y else Y
 |_=>Y
theorem v9{j:aw}:∀{is:List V}{U:List af},bx j is U->dU j (is.map .im) U []
 |[],U,c=>⟨c,rfl⟩
 |v::is,U,c=>by
  let⟨u,@s,rfl,t,E⟩:=c;exact⟨u,s,[],[],rfl,⟨t,rfl⟩,v9 E,rfl⟩
def Ha(e:b.calm=X)(Qx:q3 b QX Qs c)(f:(eV Qs b.env).length=r:=by rfl)(h:(eV Qs b.env).findIdx? (·.1)=Y:=by rfl):gS b QX (.Tuple Qs n QK) (og r c):=by
 refine s8 (Mu e Qx f h) λu B j D i=>?_;let⟨y,P,v,Qu,@QQ,N,QU,ao,a,p⟩:=i;unfold og at a;split at a
 ·rename_i is;split at a
  ·rename_i d;let@⟨⟨g,@w,rfl,t,E⟩,rfl⟩:=QU;exact⟨g,w,rfl,cb.of t,by rw[<-E.length];exact d,y,P,_,[],QQ,N,v9 E,ao,a,p⟩
  ·cases a
 ·rename_i I;split at a
  ·rename_i d;let⟨g,@w,rfl,t,E⟩:=QU;exact⟨g,w,rfl,cb.of t,by rw[<-E.length];exact d,y,P,_,Qu,QQ,N,E,ao,a,p⟩
  ·cases a
 ·cases a
@[simp] def h9(L:ay ai)(c:fg):bP:=λy=>(L y).bind λq=>(c q.1 q.2).map λQQ=>(.bg,QQ)
def l4{c:fg}(e:cm b d L)(f:gS b QX QY c)(Qx:Aq [QY] d QK.line b.env=pure aq:=by rfl)(g:CW [QY] d b.env=pure Y:=by rfl)(t:(eV [QY] b.env).map (·.2)=[hC QY b.env]:=by rfl):iy b QX (.Assign [QY] d QK) (h9 L c):=by
 refine kR (Nv e f Qx g t) λQt B j h=>?_;let⟨y,P,aR,@QQ,N,ao,i,p⟩:=h;let⟨@⟨s,QA⟩,g1,g2⟩:=bG.mp i;let⟨@Q4,k,l⟩:=cw.mp g2;cases l;exact⟨y,P,s,QA,N,ao,g1,λu QB z Qu m QU a=>⟨QA,z,s,Qu,_,m,QU,a.ao,k,λn F Q3 Ri o q=>p n F Q3 Ri o<|a.seq q⟩⟩
def h2(m:ay Bool)(e:bP):Nat->bP
 |0=>λ_=>Y
 |r+1=>λy=>(m y).bind λq=>if q.1=X then (e q.2).bind λp=>match p.1 with
  |.bg=>h2 m e r p.2
  |.bW=>h2 m e r p.2
  |.eL=>Z (.bg,p.2)
  |.et v=>Z (.et v,p.2) else Z (.bg,q.2)
def qL(r:Nat)(q:qK (aO b.prog b.w) b.A b.env b.cE)(s:hW b m cZ)(t:i1 b QX Rx Rj):iy b QX (.While m Rx [] QK) (h2 cZ Rj r):=by
 refine kR (N0 q s t) λQt B j x=>?_;let⟨y,P,aR,@QQ,N,ao,D,p⟩:=x;refine⟨λk a F=>∃g Q3,bt F g a Q3/\dz QX B a/\bp j P F Q3/\h2 cZ Rj k g=Z (aR,QQ),⟨r,y,P,N,dz.refl,bp.perm ao<|List.Perm.refl _,D⟩,?_⟩;rintro k Ry QB ⟨QA,z,E,h,e,l⟩;cases k with
 |zero=>cases l
 |succ k=>
  rw[h2]at l;let⟨@⟨A,Q4⟩,G,i⟩:=bG.mp l;refine⟨QA,z,A,Q4,E,e.ao,G,λQN QV o f=>?_⟩;cases A with
  |false=>
   rw[aK dv]at i ⊢;cases i;exact p Ry QN QV h o (e.seq f)
  |true=>
   rw[aE rfl]at i ⊢;let⟨@⟨C,Rr⟩,H,n⟩:=bG.mp i;refine⟨λa F=>∃g Q3,bt F g a Q3/\dz QX B a/\bp j P F Q3/\h2 cZ Rj k g=Z (aR,QQ),λa F c=>⟨k,oC k,c⟩,Q4,QV,C,Rr,o,f.ao,H,?_⟩;cases C with
   |bg=>exact λa F Q3 Ri d Qp=>⟨Rr,Q3,d,h.trans Ri,(e.seq f).seq Qp,n⟩
   |bW=>exact λa F Q3 Ri d Qp=>⟨Rr,Q3,d,h.trans Ri,(e.seq f).seq Qp,n⟩
   |eL=>
    cases n;exact λa F Q3 Ri d Qp=>p a F Q3 (h.trans Ri) d ((e.seq f).seq Qp)
   |et v=>
    cases n;exact λu a F Q3 Qu Ri d QU Qp=>p u a F Q3 Qu (h.trans Ri) d QU ((e.seq f).seq Qp)
structure lp(Rn:eP)(j:aw)(Qu:List ak)(I:List V):Prop where
 go:∀F,fM j F->(∀g∈Qu,∀o,j g=Z o->F g=Z o)->∀(a:Nat) (v:V),I[a]?=Z v->Rn.go a F/\∀f uH,Rn.qH a F f uH->cQ F uH/\cq uH v f
 stop:∀F,fM j F->(∀g∈Qu,∀o,j g=Z o->F g=Z o)->Rn.stop I.length F
def qY(j:aw)(B:aW)(Qu:List ak):Option (Nat×ai)->Prop
 |none=>True
 |some (a,v)=>∃u,B[a]?=Z (Z u)/\cy j v u Qu
def xV(L:ay (List V×Option (Nat×ai))):cW:=(λB j a=>∃y P s QQ,bt j y B P/\P.Nodup/\L y=Z (s,QQ)/\∀Rn F Q3 Qu,bt F QQ B Q3->lp Rn F Qu s.1->qY F B Qu s.2->(∀g∈Qu,gq F g)->bp j P F (Q3++Qu)->a Rn F)
def lj(b:aJ)(QY Rl:bk)(L:ay (List V×Option (Nat×ai))):Prop:=(∀ ⦃q⦄,C7 b QY Rl (xV L) q)
def xY{A QZ:cW}(c:jM b QY Rl A)(a:∀B j Qu,QZ B j Qu->A B j Qu):jM b QY Rl QZ:=λQ h B j Qu G d=>c Q h B j Qu G (a B j Qu d)
def d5(QY:fg)(e:bP):List V->bP
 |[]=>λy=>Z (.bg,y)
 |f::s=>λy=>(QY (.im f) y).bind λQA=>(e QA).bind λp=>match p.1 with
  |.bg=>d5 QY e s p.2
  |.bW=>d5 QY e s p.2
  |.eL=>Z (.bg,p.2)
  |.et v=>Z (.et v,p.2)
@[simp] def kD:Option (Nat×ai)->a6->a6
 |none,y=>y
 |some (a,v),y=>match y[a]? with
  |some (Z .dS)=>y.set a (Z v)
  |_=>y
@[simp] def f9(L:ay (List V×Option (Nat×ai)))(QY:fg)(e:bP):bP:=λy=>(L y).bind λq=>(d5 QY e q.1.1 q.2).map λp=>(p.1,kD q.1.2 p.2)
def vh{o:Option (Nat×ai)}(N:bt j y B P)(c:qY j B Qu o):∃z QE,bt j (kD o y) B z/\(z++QE).Perm (P++Qu):=by
 cases o with
 |none=>exact⟨P,Qu,N,List.Perm.refl _⟩
 |some q=>
  let⟨a,v⟩:=q;let⟨@u,t,E⟩:=c;unfold kD;dsimp only;split
  ·exact N.back E t
  ·exact⟨P,Qu,N,List.Perm.refl _⟩
def mz(Ri:List Nat):Option (Nat×ai)->Prop
 |none=>True
 |some (a,_)=>a∈Ri
def Hk{L:ay (List V×Option (Nat×ai))}{H:fg}(hm:qK (aO b.prog b.w) b.A b.env b.cE)(hw:b.calm=X)(S:lj b QY Rl L)(h0:gS b Ri QY H)(ii:i1 b Ri Rx Rj)(db:∀a∈QX,a∈Ri)(Qx:∀y s QQ,L y=Z (s,QQ)->mz Ri s.2)(ds:hz b (.For QY Rl Rx [] QK) (ED (xV L) (yB Ri H)<|nS Ri Rj)):iy b QX (.For QY Rl Rx [] QK) (f9 L H Rj):=by
 refine kR ds λQt B j dL=>?_;let⟨y,P,aR,@QQ,N,ao,eq,p⟩:=dL;let⟨@⟨⟨I,o⟩,QA⟩,t,E⟩:=bG.mp eq;let⟨@⟨C,Q4⟩,ev,ex⟩:=cw.mp E;cases ex;refine⟨y,P,(I,o),QA,N,ao,t,λRn QB z Qu fd it fn bm ap=>?_⟩;have fr:mz Ri o:=Qx y _ _ t;have bn:=dk.mp ap.ao;have as:∀{QN:aw}{QV:List ak},bp QB z QN QV->∀g∈Qu,∀J,QB g=Z J->QN g=Z J:=λh g f0 J d=>h.keep g J d λc=>bn.2.2 g c g f0 rfl;have bs:∀{QN:aw}{QV:List ak}{e:aW},bp QB z QN QV->dz Ri B e->qY QN e Qu o:=λ{QN QV e} h C=>by
  cases o with
  |none=>trivial
  |some q=>
   let⟨a,v⟩:=q;let⟨@u,f1,f2⟩:=fn;exact⟨u,(C.2 a fr).trans f1,f2.mono h.tup<|as h⟩
 have bv:∀{e:aW},dz Ri B e->dz QX B e:=λC=>⟨C.1,λa S=>C.2 a<|db a S⟩;have ca:∀{e:aW}{QN:aw}{QV:List ak}{Q4:a6},pK QX Qt B j P (kD o Q4) .bg->dz Ri B e->bt QN Q4 e QV->bp QB z QN QV->Qt.bg e QN:=λ{e QN QV Q4} p C a1 x=>by
  let⟨Q,@QE,a2,T⟩:=vh a1 (bs x C);exact p e QN Q (bv C) a2 ((ap.trans x bm).less T)
 refine⟨λa k bd F=>k+a=I.length/\∃i Q3,dz Ri B bd/\bt F i bd Q3/\bp QB z F Q3/\d5 H Rj (I.drop a) i=Z (C,Q4),⟨I.length,rfl,QA,z,dz.refl,fd,bp.perm bn.1<|List.Perm.refl _,ev⟩,?_⟩;rintro a k bd F ⟨io,i,Q3,D,cd,Qp,R⟩;by_cases ce:a<I.length
 ·let@⟨f4,f8⟩:=it.go F Qp.tup (as Qp) a I[a] (by simp[ce]);rw[iE ce,d5]at R;let⟨@Rr,ga,ge⟩:=bG.mp R;let⟨@⟨ch,be⟩,gl,U⟩:=bG.mp ge;refine .inr ⟨f4,λe QN=>(k-1)+(a+1)=I.length/\∃i Q3,dz Ri B e/\bt QN i e Q3/\bp QB z QN Q3/\d5 H Rj (I.drop<|a+1) i=Z (C,Q4),λe QN c=>⟨k-1,⋯,c⟩,λf QN gt=>?_⟩;let@⟨bi,g1⟩:=f8 f QN gt;have a1:=cd.mono bi.tupS λg W o d=>bi g o d;have x:=Qp.same bi;refine⟨i,Q3,.im I[a],[],Rr,a1,⟨g1,rfl⟩,by rw[cC];exact x.ao,ga,λjp g2 Q al a2 ci=>?_⟩;have G:bp QB z g2 Q:=x.seq (by rw[cC]at ci;exact ci);refine⟨Rr,Q,ch,be,a2,G.ao,gl,?_⟩;cases ch with
  |bg=>exact λam an M m n r=>⟨⋯,be,M,(D.trans al).trans m,n,G.seq r,U⟩
  |bW=>exact λam an M m n r=>⟨⋯,be,M,(D.trans al).trans m,n,G.seq r,U⟩
  |eL=>
   cases U;exact λam an M m n r=>ca p ((D.trans al).trans m) n (G.seq r)
  |et v=>
   cases U;intro u am an M cl m n g3 r;have co:=G.seq r;have cr:=(D.trans al).trans m;let⟨cs,@hd,he,hf⟩:=vh (Qu:=Qu) n (bs co cr);refine p u am an cs cl (bv cr) he g3 ((ap.trans co bm).less (aL:=hd) ?_);rw[bA];refine (dT cs c6).trans ?_;rw[<-bA];refine (e8 cl hf).trans ?_;rw[bA,bA];exact dT _ c6
 ·have S:a=I.length:=⋯
  subst S;refine .inl ⟨it.stop F Qp.tup<|as Qp,?_⟩;rw[mR (a5 _)]at R;cases R;exact ca p D cd Qp
end
section
variable{b:aJ}
variable{H:fg}
def j2{L:ay (List V×Option (Nat×ai))}{Rj:bP}(c:qK (aO b.prog b.w) b.A b.env b.cE)(d:b.calm=X)(S:lj b QY Rl L)(e:gS b Ri QY H)(g:i1 b Ri Rx Rj)(h:∀a∈QX,a∈Ri)(Qx:∀y s QQ,L y=Z (s,QQ)->mz Ri s.2)(i:∀f,k8 Rl b.env f=pure f:=by intro W;rfl):iy b QX (.For QY Rl Rx [] QK) (f9 L H Rj):=
 Hk c d S e g h Qx (OZ c d S e g i)
def Hl(Qw:Φ)(RA:b2):cW:=(λB j Qu=>RA B j λf QB=>∃g,f=.ref g/\(((∃w,cT Qw QB g w)/\Qu (rj Qw g) QB)\/((∃w,cb Qw QB g w)/\Qu (rF Qw g) QB)))
variable{x:bk}
def Lr{RA:b2}(m:bN b x RA):jM b QY x (Hl b.K RA):=by
 intro Q h B j Qu G c;refine bU (m Q h B j _ G c) λu a n=>?_;let⟨f,@QB,i,r,s⟩:=n;let⟨@g,d,p⟩:=s;subst d;cases r;rcases p with ⟨⟨w,k⟩,p⟩|⟨⟨w,k⟩,p⟩
 ·let⟨@QD,t,q,v⟩:=i.list k;refine rr q.isList ?_;refine⟨a.heap.objs.size,[a.heap.objs.size],_,_,QB,rfl,i.kept (QZ:=a.toks) λe o d=>b6 _ d,LA g _,⟨_,c_ _ rfl,rfl,rfl⟩,λe l=>?_,p⟩;have d:e=a.heap.objs.size:=by simpa using l
  subst d;exact i.rK (a5 _) (i.a0.fresh<|a5 _)
 ·let⟨@QD,t,q,v⟩:=i.tuple k;refine wpAny_pyIter_tuple (show a.heap.IsTuple g QD.toArray from q) ?_;refine⟨a.heap.objs.size,[a.heap.objs.size],_,_,QB,rfl,i.kept (QZ:=a.toks) λe o d=>b6 _ d,Ly g _,⟨_,c_ _ rfl,rfl,rfl⟩,λe l=>?_,p⟩;have d:e=a.heap.objs.size:=by simpa using l
  subst d;exact i.rK (a5 _) (i.a0.fresh<|a5 _)
theorem bx.get{j:aw}:∀{I:List V}{U:List af}{a:Nat}{v:V},bx j I U->I[a]?=Z v->∃u,U[a]?=Z u/\cq j v u
 |[],_,_,_,_,d=>by simp at d
 |v::I,_,0,_,c,d=>by
  let⟨u,@s,rfl,t,E⟩:=c;simp at d;subst d;exact⟨u,rfl,t⟩
 |v::I,_,a+1,_,c,d=>by
  let⟨u,@s,rfl,t,E⟩:=c;let⟨@J,b,e⟩:=bx.get (a:=a) E ⇑d;exact⟨J,by simpa using b,e⟩
variable{g:ak}
theorem Hx(c:j g=Z (.lst w))(e:bx j I w):lp (rj Qw g) j [g] I where
 go:=λF A n a v d=>by
  let⟨@u,b,h⟩:=e.get d;have T:=cT.of (Qw:=Qw) (n g (.head _) _ c);refine⟨⟨w,u,T,b⟩,λf l ⟨i,k⟩=>?_⟩;subst i;rw[k w T]at b;cases b;exact⟨cQ.refl _,h.mono A.tup⟩
 stop:=λF A n=>⟨w,cT.of<|n g (.head _) _ c,by rw[<-e.length];exact a5 _⟩
theorem I7{o:a3}(c:j g=Z (.dP o<|.lst w))(e:bx j I w):lp (rj Qw g) j [] I where
 go:=λF A n a v d=>by
  let⟨@u,b,h⟩:=e.get d;have T:cT Qw F g w:=.inl (.inr ⟨o,A.dP _ _ _ c⟩);refine⟨⟨w,u,T,b⟩,λf l ⟨i,k⟩=>?_⟩;subst i;rw[k w T]at b;cases b;exact⟨cQ.refl _,h.mono A.tup⟩
 stop:=λF A n=>⟨w,.inl<|.inr ⟨o,A.dP _ _ _ c⟩,by rw[<-e.length];exact a5 _⟩
theorem KY(c:j g=Z (.tup w))(e:bx j I w):lp (rF Qw g) j [] I where
 go:=λF A n a v d=>by
  let⟨@u,b,h⟩:=e.get d;have T:=cb.of (Qw:=Qw) (A.tup g _ c);refine⟨⟨w,u,T,b⟩,λf l ⟨i,k⟩=>?_⟩;subst i;rw[k w T]at b;cases b;exact⟨cQ.refl _,h.mono A.tup⟩
 stop:=λF A n=>⟨w,cb.of<|A.tup g _ c,by rw[<-e.length];exact a5 _⟩
abbrev js:=ay (List V×Option (Nat×ai))
@[simp] def iS(v:ai):Option (List V):=match v with
 |.im (.tup I)=>Z I
 |.lst I=>Z I
 |.cS I=>Z I
 |_=>Y
@[simp] def cN(L:ay bJ):js:=λy=>(L y).bind λq=>match q.1 with
 |.bZ v=>(iS v).map λI=>((I,Y),q.2)
 |.aU a=>(fh a q.2).bind λp=>(iS p.1).map λI=>((I,if p.1.ei=X then Y else Z (a,p.1)),p.2)
def AX(l:cy j v u Qu)(d:iS v=Z I):
  ∃g,u=.ref g/\(((∃w,cT Qw j g w)/\lp (rj Qw g) j Qu I)\/((∃w,cb Qw j g w)/\lp (rF Qw g) j Qu I)):=by
 unfold iS at d;split at d
 ·cases d;let@⟨⟨g,@w,rfl,t,E⟩,rfl⟩:=l;exact⟨g,rfl,.inr ⟨⟨w,cb.of t⟩,KY t E⟩⟩
 ·cases d;let⟨g,@w,rfl,t,E,rfl⟩:=l;exact⟨g,rfl,.inl ⟨⟨w,cT.of t⟩,Hx t E⟩⟩
 ·cases d;let⟨g,w,@o,rfl,t,E,rfl⟩:=l;exact⟨g,rfl,.inl ⟨⟨w,.inl<|.inr ⟨o,t⟩⟩,I7 t E⟩⟩
 ·cases d
def fD{L:ay bJ}(c:dE b x L):lj b QY x (cN L):=by
 refine xY (Lr c) λB j G w=>?_;let⟨y,P,s,@QQ,N,ao,A,p⟩:=w;let⟨@⟨f,QA⟩,t,E⟩:=bG.mp A;refine⟨y,P,f,QA,N,ao,t,λu QB z Qu i Q5 e=>?_⟩;cases f with
 |bZ v=>
  let⟨@I,k,l⟩:=cw.mp E;cases l;let⟨@g,rfl,m⟩:=AX (Qw:=b.K) Q5 k;refine⟨g,rfl,?_⟩;rcases m with ⟨d,it⟩|⟨d,it⟩
  ·exact .inl ⟨d,p _ QB z Qu i it trivial (cy.chg Q5) e⟩
  ·exact .inr ⟨d,p _ QB z Qu i it trivial (cy.chg Q5) e⟩
 |aU a=>
  let⟨@⟨v,Q4⟩,k,l⟩:=bG.mp E;let⟨@I,C,D⟩:=cw.mp l;cases D;let⟨H,QV,@bS,n,h,o,F⟩:=z6 i k;let@⟨Q5,rfl⟩:=Q5;rw[Q5]at n;cases n;rw[cC]at e;have q:=e.kW F.symm;let⟨@g,rfl,m⟩:=AX (Qw:=b.K) h C;have r:qY QB B bS (if v.ei=X then Y else Z (a,v)):=by
   split
   ·trivial
   ·exact⟨_,Q5,h⟩
  refine⟨g,rfl,?_⟩;rcases m with ⟨d,it⟩|⟨d,it⟩
  ·exact .inl ⟨d,p _ QB QV bS o it r h.chg q⟩
  ·exact .inr ⟨d,p _ QB QV bS o it r h.chg q⟩
def u5{L:ay ai}:∀y s QQ,cN (ag L) y=Z (s,QQ)->mz Ri s.2:=by
 intro y s QQ c;let⟨@⟨f,QA⟩,t,E⟩:=bG.mp c;unfold ag at t;let⟨@q,d,a⟩:=cw.mp t;cases a;let⟨@I,e,b⟩:=cw.mp E;cases b
 trivial
variable{a:Nat}
def tm(S:a∈Ri):∀y s QQ,cN (aj a) y=Z (s,QQ)->mz Ri s.2:=by
 intro y s QQ c;let⟨@⟨f,QA⟩,t,E⟩:=bG.mp c;unfold aj at t;split at t
 ·cases t;let⟨@⟨v,Q4⟩,e,b⟩:=bG.mp E;let⟨@I,g,d⟩:=cw.mp b;cases d;show mz Ri (if v.ei=X then Y else Z (a,v));split
  ·trivial
  ·exact S
 ·cases t
def fZ(R:Int)(r:Nat):List V:=((range r).map λ(n:Nat)=>V.int (R+(n:Int)))
theorem Pp{R:Int}:lp (rL R r) j [] (fZ R r) where
 go:=λF A n a v d=>by
  have S:a<r:=by
   have:=(e9.mp d).1
   rwa [fZ,bj,hq]at this
  refine⟨S,λf e ⟨b,c⟩=>?_⟩;subst b;rw[fZ,eH,List.getElem?_range S]at d;cases d;exact⟨cQ.refl _,c⟩
 stop:=λF A n=>by
  show r<=_;rw[fZ,bj,hq];exact a5 _
def qV(a:Int):Prop :=( -1000000<=a/\a<=1000000)
noncomputable instance (a:Int):Decidable (qV a):=inferInstanceAs (Decidable<|_/\_)
@[simp] def i7(L:ay (List bJ)):js:=λy=>(L y).bind λq=>(gA q.2 q.1).bind λI=>match I with
 |[.im (.int i)]=>if qV i then Z ((fZ 0 i.toNat,Y),q.2) else Y
 |_=>Y
def ET{v:V}(c:l0 j [.im v] U):∃u,U=[u]/\cq j v u:=by
 let⟨u,@s,rfl,⟨@Qu,t,W⟩,E⟩:=c;cases (show s=[] from E);exact⟨u,rfl,t⟩
def x7{v d:V}(c:l0 j [.im v,.im d] U):∃u J,U=[u,J]/\cq j v u/\cq j d J:=by
 let⟨u,@s,rfl,⟨@Qu,t,W⟩,E⟩:=c;let⟨@J,rfl,a⟩:=ET E;exact⟨u,J,rfl,t,a⟩
def qs{g:bk}(h:d3 b "range")(k:b.aI "range" = Y)(c:fv b [g] L)(Qx:bQ [g] b.env=[(aq,b8 g b.env)]:=by rfl):lj b QY (.Call (.Name "range" q) [g] [] QK) (i7 L):=by
 refine xY (Lg h k c Qx) λB j v l=>?_;let⟨y,P,s,@QQ,N,ao,m,p⟩:=l;let⟨@⟨M,QA⟩,t,E⟩:=bG.mp m;let⟨@I,n,a⟩:=bG.mp E;refine⟨y,P,M,QA,N,ao,t,λU QB z w e Q5 o=>?_⟩;have r:=Q5.read e n;split at a
 ·rename_i i;split at a
  ·rename_i f;cases a;let⟨@u,rfl,d⟩:=ET r;cases (show u=.int i from d);exact⟨i,rfl,by have:=f.1;lia,by have:=f.2;lia,p _ QB z [] e Pp trivial (λg c=>nomatch c) (by rw[cC];exact o.less (List.Perm.refl _))⟩
  ·cases a
 ·cases a
def vp:∀y s QQ,i7 L y=Z (s,QQ)->mz Ri s.2:=by
 intro y s QQ c;let⟨@⟨M,QA⟩,t,E⟩:=bG.mp c;let⟨@I,b,a⟩:=bG.mp E;split at a
 ·split at a
  ·cases a;trivial
  ·cases a
 ·cases a
def sO(b:aJ)(Rv:List bk)(L:ay Bool):Prop:=(∀ ⦃q⦄,zx b Rv (i4 L) q)
def dN:ay Bool:=(λy=>Z (X,y))
def va:sO b [] dN:=by
 intro Q h B j D G a;let⟨y,P,e,@QQ,N,ao,c,p⟩:=a;cases c;exact Ga Q h B j D G (p j P N<|bp.perm ao<|List.Perm.refl _)
def qq{L:ay Bool}(c:hW b m L):sO b [m] L:=Pc c
@[simp] def i9(QW:List Nat)(y:a6):a6:=QW.map λa=>y.getD a Y
def jO:List Nat->a6->a6
 |[],y=>y
 |a::s,y=>jO s (match y[a]? with|some (Z _)=>y.set a (Z .dS)|_=>y)
@[simp] def h1:List Nat->a6->a6->a6
 |a::s,o::aL,y=>h1 s aL (y.set a o)
 |_,_,y=>y
def gx(own:Nat)(QY:fg)(m:ay Bool)(d:ay ai): List V -> List V -> a6 -> Option (List V × a6)
  |[],a,aL => Z (a,aL)
  |f :: s,a,aL => (QY (.im f)<|List.replicate own Y ++ aL).bind λQA => (m QA).bind λq => if q.1=X then (d q.2).bind λp => match p.1 with
      |.im v => if a.length<100000 then gx own QY m d s (a ++ [v]) (p.2.drop own) else Y
      |_ => Y
    else gx own QY m d s a (q.2.drop own)
@[simp] def cR(own:Nat)(QW:List Nat)(Q:js)(QY:fg)(m:ay Bool)(d:ay ai):ay ai:=λy=>(Q y).bind λq=>(gx own QY m d q.1.1 []<|i9 QW q.2).map λp=>(.lst p.1,kD q.1.2<|h1 QW p.2 q.2)
def oR(own r:Nat):List Nat:=((range r).map (·+own))
def OG(c:y[a]?=Z o):y.getD a Y=o:=by rw[cx,c];rfl
def bt.void(N:bt j y B P)(a:Nat):∃z QV,bt j (match y[a]? with|some (Z _)=>y.set a (Z .dS)|_=>y) B z/\lI j (y.getD a Y) (B.getD a Y) QV/\(z++QV).Perm P:=by
 split
 ·rename_i v b;let⟨u,z,@QV,t,E,c,e⟩:=N.out b;refine⟨QV,z,c,?_,e⟩;rw[OG b,cx,t];exact⟨u,rfl,E⟩
 ·rename_i f;refine⟨P,[],N,?_,by rw[cC]⟩;have:y.getD a Y=Y:=by
   rw[cx];cases d:y[a]? with
   |none=>rfl
   |some o=>
    cases o with
    |none=>rfl
    |some v=>exact absurd d (f v)
  rw[this];exact rfl
theorem Ae{j:aw}{B:aW}:∀{QW:List Nat}{y:a6}{P:List ak},QW.Nodup->bt j y B P->∃z QV,bt j (jO QW y) B z/\bt j (i9 QW y) (QW.map λa=>B.getD a Y) QV/\(z++QV).Perm P
 |[],y,P,_,N=>⟨P,[],N,⟨rfl,rfl⟩,by rw[cC]⟩
 |a::s,y,P,ao,N=>by
  let⟨z,@QV,t,E,f⟩:=N.void a;have b:=ic.mp ao;let⟨g,@c,h,e,k⟩:=Ae (QW:=s) b.2 t;refine⟨g,QV++c,h,⟨_,_,QV,c,rfl,E,?_,rfl⟩,j0.trans<|(dT _ k).trans<|c6.trans f⟩;have d:i9 s (match y[a]? with|some (Z _)=>y.set a (Z .dS)|_=>y)=i9 s y:=by
   unfold i9;refine nP λi l=>?_;split
   ·rw[cx,cx,mM];rintro rfl;exact b.1 l
   ·rfl
  rw[d]at e;exact e
def bt.LQ(N:bt j y B P)(c:lI j o (B.getD a Y) QE):∃z QV,bt j (y.set a o) B z/\(z++QV).Perm (P++QE):=by
 cases o with
 |some v=>
  let⟨@u,d,l⟩:=c;refine N.back l ?_;rw[cx]at d;cases p:B[a]? with
  |none=>rw[p]at d;cases d
  |some f=>rw[p]at d;rw[show f=Z u from d]
 |none=>
  cases (show QE=[] from c);rw[cC];by_cases S:a<y.length
  ·cases p:y[a]? with
   |none=>exact absurd (List.getElem?_eq_none_iff.mp p) ⋯
   |some f=>
    cases f with
    |none=>
     refine⟨P,[],?_,by rw[cC]⟩;have:y.set a Y=y:=by
      refine oe λi=>?_;by_cases d:a=i
      ·subst d;rw[p,tX S]
      ·rw[mM d]
     rw[this];exact N
    |some v=>
     let⟨u,z,@QV,t,E,m,n⟩:=N.out p;have gen:∀{y:a6}{B:aW}{P:List ak}{a:Nat},bt j y B P->∃z QV,bt j (y.set a Y) B z/\(z++QV).Perm P:=by
      intro y;induction y with
      |nil=>intro B P a N;exact⟨P,[],by simpa using N,by rw[cC]⟩
      |cons o y e=>
       intro B P a N;let⟨f,s,O,@QO,rfl,g,b,rfl⟩:=N;cases a with
       |zero=>exact⟨QO,O,⟨f,s,[],QO,rfl,rfl,b,rfl⟩,c6⟩
       |succ a=>
        let⟨aL,@Qt,h,k⟩:=e (a:=a) b;refine⟨O++aL,Qt,⟨f,s,O,aL,rfl,g,h,rfl⟩,?_⟩;rw[bA];exact dT _ k
     exact gen N
  ·refine⟨P,[],?_,by rw[cC]⟩;rw[List.set_eq_of_length_le ⋯];exact N
theorem An{j:aw}{B:aW}:∀{QW:List Nat}{aL y:a6}{P QE:List ak},bt j y B P->bt j aL (QW.map λa=>B.getD a Y) QE->∃z QV,bt j (h1 QW aL y) B z/\(z++QV).Perm (P++QE)
 |[],aL,y,P,QE,N,_=>⟨P,QE,by cases aL<;>exact N,List.Perm.refl _⟩
 |a::s,[],y,P,QE,N,c=>⟨P,QE,N,List.Perm.refl _⟩
 |a::s,o::aL,y,P,QE,N,c=>by
  let⟨f,A,g,@h,d,t,E,rfl⟩:=c;cases d;let⟨z,@O,b,e⟩:=N.LQ t;let⟨QV,@QO,Q0,Q6⟩:=An (QW:=s) (aL:=aL) b E;refine⟨QV,QO++O,Q0,?_⟩;rw[<-bA,<-bA];refine (e8 O Q6).trans ?_;rw[bA];refine (dT z c6).trans ?_;rw[<-bA];exact e8 _ e
def Gn:∀{QW:List Nat}{aL y:a6},QW.length=aL.length->QW.Nodup->h1 QW aL (jO QW y)=h1 QW aL y:=by
 have l:∀{s:List Nat}{aL y:a6}{a:Nat}{o:Option ai},a∉s->h1 s aL (y.set a o)=(h1 s aL y).set a o:=by
  intro s;induction s with
  |nil=>intro aL y a o W;cases aL<;>rfl
  |cons i s b=>
   intro aL y a o c;cases aL with
   |nil=>rfl
   |cons m aL=>
    have g:a≠i:=λd=>c (by rw[d];exact .head _);show h1 s aL ((y.set a o).set i m)=(h1 s aL<|y.set i m).set a o;rw[zG _ _ g,b λe=>c<|.tail _ e]
 have h:∀{s:List Nat}{y:a6}{a:Nat}{o:Option ai},a∉s->jO s (y.set a o)=(jO s y).set a o:=by
  intro s;induction s with
  |nil=>intro y a o W;rfl
  |cons i s b=>
   intro y a o c;have g:a≠i:=λd=>c (by rw[d];exact .head _);show jO s (match (y.set a o)[i]? with|some (Z _)=>(y.set a o).set i (Z .dS)|_=>y.set a o)=(jO s (match y[i]? with|some (Z _)=>y.set i (Z .dS)|_=>y)).set a o;rw[mM g];cases y[i]? with
   |none=>exact b λe=>c (.tail _ e)
   |some p=>
    cases p with
    |none=>exact b λe=>c (.tail _ e)
    |some v=>
     show jO s ((y.set a o).set i<|Z .dS)=_;rw[zG _ _ g];exact b λe=>c (.tail _ e)
 intro QW;induction QW with
 |nil=>intro aL y W W;cases aL<;>rfl
 |cons a s b=>
  intro aL y j ao;have f:=ic.mp ao;cases aL with
  |nil=>cases j
  |cons m aL=>
   have k:s.length=aL.length:=by simpa using j
   show h1 s aL ((jO s (match y[a]? with|some (Z _)=>y.set a (Z .dS)|_=>y)).set a m)=h1 s aL (y.set a m);split
   ·rw[h f.1,yu,<-h f.1,b k f.2]
   ·rw[<-h f.1,b k f.2]
theorem yS{j:aw}{y:a6}{s:aW}{P:List ak}(c:bt j y s P):∀{own:List aB},bt j (List.replicate own.length Y++y) (own.map (λ_=>Y)++s) P
 |[]=>c
 |f::own=>⟨Y,_,[],P,rfl,rfl,yS c (own:=own),rfl⟩
theorem xN{j:aw}:∀{r:Nat}{y:a6}{B:aW}{P:List ak},bt j y B P->∃z QV,bt j (y.drop r) (B.drop r) z/\(z++QV).Perm P
 |0,y,B,P,c=>⟨P,[],c,by rw[cC]⟩
 |r+1,[],B,P,c=>by
  cases c.1;exact⟨[],P,⟨rfl,rfl⟩,List.Perm.refl _⟩
 |r+1,o::y,B,P,c=>by
  let⟨f,s,O,@QO,rfl,t,E,rfl⟩:=c;let⟨z,@QV,a,b⟩:=xN (r:=r) E;exact⟨z,QV++O,a,by rw[<-bA];exact (e8 O b).trans c6⟩
def bp.both(g:bp j P QB (z++Qu)):bp j P QB z:=g.less (List.Perm.refl _)
theorem bx.snoc:∀{I:List V}{U:List af}{v:V}{u:af},bx j I U->cq j v u->bx j (I++[v]) (U++[u])
 |[],U,v,u,c,l=>by cases (show U=[] from c);exact⟨u,[],rfl,l,rfl⟩
 |d::I,U,v,u,c,l=>by
  let⟨J,@s,rfl,t,E⟩:=c;exact⟨J,s++[u],rfl,t,E.snoc l⟩
variable{Q:js}
def DW(ao:QW.Nodup)(c:mh (cR own.length QW Q H cZ Rz) B j D):
  uq own QW (xV Q) (λ_=>yB (oR own.length QW.length) H) (λ_=>i4 cZ) (λ_=>mh Rz) B j D:=by
 let⟨y,P,s,@QQ,N,f4,f8,p⟩:=c;let⟨@⟨⟨w,o⟩,QA⟩,t,E⟩:=bG.mp f8;let⟨@⟨I,cd⟩,ga,ge⟩:=cw.mp E;cases ge;refine⟨y,P,(w,o),QA,N,f4,t,λRn QB z Qu gl it gt g1 g2 mb=>?_⟩;let⟨am,@L,ce,A,T⟩:=Ae ao gl;have ch:bp j P QB (L++(am++Qu)):=g2.kW (by
  refine (e8 Qu T.symm).trans ?_;rw[bA];exact j0)
 have ci:=dk.mp ch.ao;have g3:∀f∈am++Qu,gq QB f:=λf C=>by
  rcases dG.mp C with C|C
  ·exact ce.chg f C
  ·exact g1 f C
 have an:∀{QN:aw}{QV:List ak},bp QB L QN QV->∀g∈am++Qu,∀J,QB g=Z J->QN g=Z J:=λh g b J d=>h.keep g J d λc=>ci.2.2 g c g b rfl;refine⟨λa k QJ F=>k+a=w.length/\∃m aL G,bt F aL (QW.map λa=>B.getD a Y) G/\aL.length=QW.length/\bp QB L F G/\bx F m QJ/\gx own.length H cZ Rz (w.drop a) m aL=Z (I,cd),
  ⟨w.length,rfl,[],i9 QW QA,L,A,by rw[i9,bj],bp.perm ci.1<|List.Perm.refl _,rfl,ga⟩,?_⟩;rintro a k QJ F ⟨ap,m,aL,G,cl,hd,Qp,co,as⟩;by_cases cr:a<w.length
 ·let@⟨he,hf⟩:=it.go F Qp.tup (λg b=>an Qp g<|dR _ b) a w[a] (by simp[cr]);rw[iE cr,gx]at as;let⟨@Rr,hm,hw⟩:=bG.mp as;let⟨@⟨e,bd⟩,h0,R⟩:=bG.mp hw;refine .inr ⟨he,λcs QN=>(k-1)+(a+1)=w.length/\∃m aL G,bt QN aL (QW.map λa=>B.getD a Y) G/\aL.length=QW.length/\bp QB L QN G/\bx QN m cs/\gx own.length H cZ Rz (w.drop<|a+1) m aL=Z (I,cd),λcs QN c=>⟨k-1,⋯,c⟩,λf QN C=>?_⟩;let@⟨n,ii⟩:=hf f QN C;have io:=cl.mono n.tupS λg W o d=>n g o d;have db:=Qp.same n;have a1:=co.mono n.tupS.tup;refine⟨List.replicate own.length Y++aL,G,.im w[a],[],Rr,yS io,⟨ii,rfl⟩,by rw[cC];exact db.ao,hm,λbe jp ds a2 dL bi=>⟨λi u l=>?_,?_⟩⟩
  ·
   have mo:own.length<=i:=by
    by_cases kt:i<own.length
    ·rw[jn,iA ⇑kt,eH]at l;cases d:own[i]? with
     |none=>rw[d]at l;cases l
     |some ms=>rw[d]at l;cases l
    ·lia
   have m0:i<own.length+QW.length:=by
    have:=(e9.mp l).1
    rwa [jn,dx,bj,bj]at this
   have ap:i∈oR own.length QW.length:=cO.mpr ⟨i-own.length,e0.mpr ⋯,⋯⟩;exact (a2.2 i ap).trans l
  ·have eq:bp QB L jp ds:=db.seq (by rw[cC]at bi;exact bi);have a1:=a1.mono bi.tup.tup;have ev:be.drop own.length=QW.map λa=>B.getD a Y:=by
    have na:=dL.len;refine oe λi=>?_;by_cases l:i<QW.length
    ·have ap:i+own.length∈oR own.length QW.length:=cO.mpr ⟨i,e0.mpr l,rfl⟩;have:=a2.2 _ ap;rw[lB,Cu,this,jn,jw ↥0,bj,Nat.add_sub_cancel]
    ·have aZ:be.length<=own.length+QW.length:=by
      rw[a2.1,jn,dx,bj,bj];exact a5 _
     rw[r_ (by rw[gc];lia),r_ (by rw[bj];lia)]
   have ex:be.length=own.length+QW.length:=by rw[a2.1,jn,dx,bj,bj]
   refine⟨Rr,ds,e,bd,dL,eq.ao,h0,λnb bm M bn=>?_⟩;have U:=eq.seq bn;dsimp only at R ⊢;cases e with
   |false=>
    rw[aK dv]at R ⊢;let⟨al,@fd,x,bs⟩:=xN (r:=own.length) M;rw[ev]at x;exact⟨⋯,m,bd.drop own.length,al,x,by rw[gc,M.len,ex];lia,U.less bs,a1.mono bn.tup.tup,R⟩
   |true=>
    rw[aE rfl]at R ⊢;let⟨@⟨u,fn⟩,kw,O⟩:=bG.mp R;dsimp only at O;split at O
    ·rename_i v;split at O
     ·rename_i ne;refine⟨bd,bm,.im v,fn,M,U.ao,kw,λJ nl al nm x QU bv=>?_⟩;let@⟨lc,rfl⟩:=QU;rw[cC]at bv;have fr:=(a1.mono bn.tup.tup).mono bv.tup.tup;refine⟨r5 (show QJ.length<=100000 by rw[<-fr.length];lia) ∅,?_⟩;let⟨lf,@nn,f0,li⟩:=xN (r:=own.length) x;rw[ev]at f0;exact⟨⋯,m++[v],fn.drop own.length,lf,f0,by rw[gc,x.len,ex];lia,(U.seq bv).less li,fr.snoc lc,O⟩
     ·cases O
    ·cases O
 ·have S:a=w.length:=⋯
  subst S;refine .inl ⟨it.stop F Qp.tup<|λg b=>an Qp g<|dR _ b,λca f1=>?_⟩;rw[mR (a5 _),gx]at as;cases as;have lm:bt F (jO QW QA) B am:=ce.mono Qp.tup λg b=>an Qp g (dO _ b);let⟨bm,@f2,M,ln⟩:=An lm cl;rw[Gn (by rw[hd]) ao]at M;have ls:qY F B Qu o:=by
   cases o with
   |none=>trivial
   |some q=>
    let⟨a,v⟩:=q;let⟨@u,lv,lw⟩:=gt;exact⟨u,lv,lw.mono Qp.tup λg b=>an Qp g<|dR _ b⟩
  let⟨al,@fd,x,bs⟩:=vh (Qu:=Qu) M ls;have n:cQ F (upd F ca<|.lst QJ):=(cQ.refl F).upd f1;have U:bp j P F al:=(ch.trans Qp g3).less (aL:=fd++f2) (by
   rw[<-bA];refine (e8 f2 bs).trans ?_;rw[bA];refine (dT bm c6).trans ?_;rw[<-bA];refine (e8 Qu ln).trans ?_;rw[bA];exact j0)
  exact p _ _ al [ca] (x.mono n.tupS λg W o d=>n g o d) ⟨ca,QJ,rfl,fa,co.mono n.tupS.tup,rfl⟩ (U.add f1 x.chg)
def xJ{Rw:bk}{Rv:List bk}{QS:gn}(d:b.calm=X)(QI:iG b QS own QW)(ao:QW.Nodup)(S:lj b QY Rl Q)(e:∀a,gS (b.fx (fF b own QW) QS a) (oR own.length QW.length) QY H)(bf:∀a,sO (b.fx (fF b own QW) QS a) Rv cZ)(g:∀a,cm (b.fx (fF b own QW) QS a) Rw Rz)(Qx:∀f,k8 Rl b.env f=pure f:=by intro W;rfl):cm b (.ListComp Rw [⟨QY,Rl,Rv,0⟩] QS QK) (cR own.length QW Q H cZ Rz):=
 er (Ol d QI S e bf g Qx) λB j D c=>DW ao c
end
@[simp] def h4(QX:List Nat):List ai->a6->Nat->List ai
 |v::I,o::y,i=>(if v.ei=X then v else if i∈QX then o.getD .dS else .dS)::h4 QX I y (i+1)
 |v::I,[],i=>(if v.ei=X then v else .dS)::h4 QX I [] (i+1)
 |[],_,_=>[]
@[simp] def d1(r k:Nat)(QX:List Nat)(L:bP):dH:=λI=>if I.length=r then match L (I.map Z++List.replicate (k-r) Y) with
 |some (.et s,y)=>Z (s,h4 QX I y 0)
 |some (.bg,y)=>Z (.im .aT,h4 QX I y 0)
 |_=>Y else Y
theorem Az{j:aw}:∀{I:List ai}{U:List af}{P:List ak}{k:Nat},dU j I U P->bt j (I.map Z++List.replicate k Y) (U.map Z++List.replicate k Y) P
 |[],U,P,k,c=>by
  let@⟨rfl,rfl⟩:=c;show bt j (List.replicate k Y) (List.replicate k Y) [];induction k with
  |zero=>exact⟨rfl,rfl⟩
  |succ k a=>exact⟨Y,_,[],[],rfl,rfl,a,rfl⟩
 |v::I,U,P,k,c=>by
  let⟨u,s,z,@QV,rfl,t,E,rfl⟩:=c;exact⟨Z u,_,z,QV,rfl,⟨u,rfl,t⟩,Az E,rfl⟩
theorem vw{j F:aw}{QX:List Nat}(A:fM j F):∀{I:List ai}{U:List af}{p:List ak}{y:a6}{B:aW}{P:List ak}{a:Nat},dU j I U p->bt F y B P->(∀(i:Nat) (u:af),(a+i)∈QX->U[i]?=Z u->B[i]?=Z (Z u))->
  ∃Qu QE,dU F (h4 QX I y a) U Qu/\(Qu++QE).Perm P
 |[],U,p,y,B,P,a,c,N,_=>⟨[],P,by unfold h4;exact⟨c.1,rfl⟩,List.Perm.refl _⟩
 |v::I,U,p,[],B,P,a,c,N,n=>by
  let⟨u,s,O,@QO,rfl,t,E,rfl⟩:=c;let@⟨rfl,rfl⟩:=N;let⟨Qu,@QE,b,e⟩:=vw (y:=[]) (B:=[]) (P:=[]) (a:=a+1) A E ⟨rfl,rfl⟩ λi u q r=>by
   have:=n (i+1) u (by rw[show a+(i+1)=a+1+i by lia];exact q) ⇑r;simp at this
  rw[h4];refine⟨Qu,QE,⟨u,s,[],Qu,rfl,?_,b,rfl⟩,e⟩;split
  ·rename_i k;have:=t.mono A λg m=>by rw[t.ei k]at m;cases m
   rw[t.ei k]at this;exact this
  ·exact rfl
 |v::I,U,p,o::y,B,P,a,c,N,n=>by
  let⟨u,s,O,@QO,rfl,t,E,rfl⟩:=c;let⟨f,h,aL,@Qt,rfl,x,z,rfl⟩:=N;let⟨Qu,@QE,b,e⟩:=vw (y:=y) (B:=h) (a:=a+1) A E z λi u q r=>by
   have:=n (i+1) u (by rw[show a+(i+1)=a+1+i by lia];exact q) ⇑r;simpa using this
  rw[h4];split
  ·rename_i k;have w:=t.mono A λg m=>by rw[t.ei k]at m;cases m
   rw[t.ei k]at w;refine⟨Qu,QE++aL,⟨u,s,[],Qu,rfl,w,b,rfl⟩,?_⟩;rw[<-bA];exact (e8 aL e).trans c6
  ·split
   ·rename_i C;have D:f=Z u:=by
     have:=n 0 u C rfl;simpa using this
    subst D;cases o with
    |none=>
     refine⟨Qu,QE++aL,⟨u,s,[],Qu,rfl,rfl,b,rfl⟩,?_⟩;rw[<-bA];exact (e8 aL e).trans c6
    |some d=>
     let⟨@H,G,l⟩:=x;cases G;refine⟨aL++Qu,QE,⟨u,s,aL,Qu,rfl,l,b,rfl⟩,?_⟩;rw[bA];exact dT _ e
   ·refine⟨Qu,QE++aL,⟨u,s,[],Qu,rfl,rfl,b,rfl⟩,?_⟩;rw[<-bA];exact (e8 aL e).trans c6
section
variable{Qr:bz}{l:bc}{Qw:Φ}{aI:aB->Option ae}{QH:aV}
def JU{Rm:aB}{C:ak}{Q2:List aB}{n:Nat}{L:bP}(P:fT Qw f Rm N C fd)(QI:mI Q2 QF (dB N))(x:QF.length=r)(J:∀a∈QX,a<r)(y:∀(R:ae) (O:bl) (Rg:List eA) (h:ah) (j:aw) (Qt:gs),eD n (O.deeper<|iB Rm (dB N) h.heap.objs.size C R)->i1 (kN hT Qr l Qw aI QH Q2 Rm (dB N) C R O Rg h j Qt).m1 QX (fJ N) L):
  iz Qr l Qw aI QH hT (n+1) C fd QF (jY r<|d1 r Q2.length QX L):=by
 refine P.ok QI (λU j D Qt c=>c.1.trans x.symm) (λR O Rg h j U D Qt z c=>⟨_,y R O Rg h j Qt z,?_⟩);let@⟨o,⟨I,m,s,@G,QU,ao,b,p⟩⟩:=c;have A:I.length=r:=QU.length.trans o;unfold d1 at b;rw[aE A]at b;have N:=Az (k:=Q2.length-r) QU;have Qs:start Q2 U=U.map Z++List.replicate (Q2.length-r) Y:=by unfold start;rw[o]
 rw[Qs];have q:∀{e:aW}{F:aw}{Q3:List ak}{QQ:a6}{u:af}{Qu:List ak},h4 QX I QQ 0=G->dz QX (U.map Z++List.replicate (Q2.length-r) Y) e->bt F QQ e Q3->cy F s u Qu->bp j m F (Q3++Qu)->D u F:=λ{e F Q3 QQ u Qu} B Ri g H Qp=>by
  let⟨bS,@QE,t,E⟩:=vw (QX:=QX) (a:=0) Qp.tup QU g λi u v w=>by
   rw[Nat.zero_add]at v;rw[Ri.2 i v,iA (by rw[bj];exact (e9.mp w).1),eH,w];rfl
  rw[B]at t;refine p u F Qu bS H t (Qp.less (aL:=QE) ?_);rw[bA];exact (dT Qu E).trans c6
 split at b
 ·rename_i Ra QQ d;cases b;exact⟨_,m,.et s,QQ,N,ao,d,λu e F Q3 Qu Ri g H Qp=>q rfl Ri g H Qp⟩
 ·rename_i QQ d;cases b;exact⟨_,m,.bg,QQ,N,ao,d,λe F Q3 Ri g Qp=>q rfl Ri g ⟨rfl,rfl⟩ (by rw[cC];exact Qp)⟩
 ·cases b
end
def b5(j:aw)(v:ai)(D:cz):Prop:=(∀u F Qu,cQ j F->cy F v u Qu->Qu.Nodup->(∀g∈Qu,j g=Y)->D u F)
def b5.Cv{v:V}(p:b5 j (.im v) D)(h:cQ j F)(c:cq F v u):D u F:=p u F [] h ⟨c,rfl⟩ gY (λg a=>nomatch a)
def b5.i{j:aw}{v:V}{D:cz}{u:af}(p:b5 j (.im v) D)(c:cq j v u):D u j:=p.Cv (cQ.refl j) c
def b5.l{q:ak}(p:b5 j (.lst I) D)(a:j q=Y)(c:bx j I w):D (.ref q) (upd j q<|.lst w):=by
 have h:cQ j (upd j q<|.lst w):=(cQ.refl j).upd a;exact p _ _ [q] h ⟨q,w,rfl,fa,c.mono h.tupS.tup,rfl⟩ (eY _ _) λg b=>by rw[cK.mp b];exact a
def b5.t{j:aw}{I:List V}{w:List af}{D:cz}{q:ak}(p:b5 j (.im<|.tup I) D)(a:j q=Y)(c:bx j I w):D (.ref q) (upd j q<|.tup w):=by
 have h:cQ j (upd j q<|.tup w):=(cQ.refl j).upd a;exact p.Cv h ⟨q,w,rfl,fa,c.mono h.tupS.tup⟩
section
variable{b:aJ}
def dI.imp{C:ae->ae->dD ae}{s:bS}(c:dI b C s)(a:∀f H j D,Ra f H j D->s f H j D):dI b C Ra:=λQ h B j f H u J D G d e g=>c Q h B j f H u J D G d e (a f H j D g)
def ep.imp{C:ae}{s Ra:List af->aw->cz->Prop}(c:ep b C s)(a:∀w j D,Ra w j D->s w j D):ep b C Ra:=λQ h B j w QR D G d e=>c Q h B j w QR D G d (a w j D e)
def ip.imp{s:bS}(c:ip b s)(a:∀f H j D,Ra f H j D->s f H j D):ip b Ra:=λd e Q h B j f H u J D G g i k=>c d e Q h B j f H u J D G g i (a f H j D k)
def eO.i{j:aw}{v:V}{u:af}(c:eO j (.im v) u):cq j v u:=c.elim λ_ l=>l.1
end
abbrev fS:=ai->ai->Option ai
@[simp] def ir(aL:Int->Int->Bool)(L:Int->Int->V):fS:=λg e=>match g,e with
 |.im (.int a),.im (.int i)=>if aL a i=X then Z (.im<|L a i) else Y
 |_,_=>Y
def zH{aL:Int->Int->Bool}{L:Int->Int->V}{g e:ai}(c:ir aL L g e=Z v):∃a i,g=.im (.int a)/\e=.im (.int i)/\aL a i=X/\v=.im (L a i):=by
 unfold ir at c;split at c
 ·rename_i a i;split at c
  ·rename_i b;cases c;exact⟨a,i,rfl,rfl,b,rfl⟩
  ·cases c
 ·cases c
section
variable{b:aJ}
variable{C:ae->ae->dD ae}{L:Int->Int->af}{c:Int->Int->V}
def so{aL:Int->Int->Prop}{QO:Int->Int->Bool}(o:dI b C (n3 aL L))(e:∀a i,QO a i=X->aL a i)(g:∀j a i,cq j (c a i)<|L a i):eS b C (ir QO c):=
 o.imp λf H j D ⟨Q_,Rb,v,h,k,d,p⟩=>by
  let⟨a,@i,rfl,rfl,l,rfl⟩:=zH d;exact⟨a,i,h.i,k.i,e a i l,b5.i p<|g j a i⟩
def pj(o:dI b C (ku L))(e:∀j a i,cq j (c a i)<|L a i):eS b C (ir (λ_ W=>X) c):=
 o.imp λf H j D ⟨Q_,Rb,v,g,h,d,p⟩=>by
  let⟨a,@i,rfl,rfl,k,rfl⟩:=zH d;exact⟨a,i,g.i,h.i,b5.i p<|e j a i⟩
@[simp] def mL:fS:=ir (λ_ W=>X) λa i=>.int (a-i)
def gN(a i:Int):Bool:=(!(decide (bq.Int.intBits a>sq)&&decide (bq.Int.intBits i>sq)&&bq.Int.intTooBig (bq.Int.intBits a+bq.Int.intBits i)))
@[simp] def hZ:fS:=ir gN λa i=>.int (a*i)
@[simp] def lz:fS:=ir (λ_ i=>decide (0<i/\i<1073741824)) λa i=>.int (a/i)
@[simp] def g7:fS:=ir (λ_ i=>decide (0<i)) λa i=>.int (a%i)
@[simp] def rf:fS:=ir (λa i=>decide (0<=i/\i<=1000000/\a.natAbs<2^64)) λa i=>.int (a^i.toNat)
@[simp] def wd:fS:=ir (λ_ W=>X) λa i=>.ax (decide (a<i))
@[simp] def ih:fS:=ir (λ_ W=>X) λa i=>.ax (decide (a<=i))
@[simp] def oa:fS:=ir (λ_ W=>X) λa i=>.ax (decide (i<a))
@[simp] def EZ:fS:=ir (λ_ W=>X) λa i=>.ax (decide (i<=a))
def qT:eS b (fR .Sub) mL:=pj Ib λ_ W W=>rfl
def jE:eS b (fR .Mult) hZ:=so Ju (λa i c=>by unfold gN at c;unfold IntMulOk;rw[ks]at c;rw[c];exact dv) λ_ W W=>rfl
def p1:eS b (fR .FloorDiv) lz:=so K4 (λa i c=>show 0<i/\i<1073741824 from hY c) λ_ W W=>rfl
def ia:eS b (fR .Mod) g7:=so HP (λa i c=>hY c) λ_ W W=>rfl
def tR:eS b (fR .Pow) rf:=so Ji (λa i c=>show 0<=i/\i<=1000000/\a.natAbs<2^64 from hY c) λ_ W W=>rfl
def Lp:eS b (dY .Lt) wd:=pj I8 λ_ W W=>rfl
def sb:eS b (dY .LtE) ih:=pj Gh λ_ W W=>rfl
def vj:eS b (dY .Gt) oa:=pj Pz λ_ W W=>rfl
def Jd:eS b (dY .GtE) EZ:=pj HX λ_ W W=>rfl
def O0:dI b (fR .Add) (λf H j D=>∃g e QJ,f=.ref g/\H=.ref e/\cb b.K j g []/\cb b.K j e QJ/\D (.ref e) j):=by
 intro Q h B j f H u J D G o q c;let⟨g,e,@QJ,rfl,rfl,s,t,p⟩:=c;cases o;cases q;let⟨@QD,v,w,W⟩:=G.tuple s;let⟨@C,E,Rf,W⟩:=G.tuple t;have d:QD=[]:=v.te.mpr rfl;subst d;let⟨@⟨cls,x,data,aU⟩,a,i,⟨@r,k⟩⟩:=id w;let⟨@⟨F,y,data2,z⟩,l,m,⟨@A,n⟩⟩:=id Rf;simp only at i k m n;subst i k m n;exact yg ⟨_,a,rfl⟩ ⟨_,l,rfl⟩ wM wF xa xr (wZ _ _) (tuple_addW0 g e _ _ r A x y aU z rfl) ⟨a,l,.ref e,j,G,rfl,p⟩
@[simp] def eo:fS:=λg e=>match g,e with
 |.im (.int a),.im (.int i)=>Z (.im<|.int<|a+i)
 |.im (.tup f),.im (.tup H)=>if f.length+H.length<=100000 then Z (.im<|.tup<|f++H) else Y
 |.lst f,.lst H=>if f.length+H.length<=100000 then Z (.lst<|f++H) else Y
 |.im (.str f),.im (.str H)=>if f.length+H.length<=100000 then Z (.im<|.str<|f++H) else Y
 |_,_=>Y
theorem bx.app:∀{g e:List V}{f H:List af},bx j g f->bx j e H->bx j (g++e) (f++H)
 |[],e,f,H,c,n=>by cases (show f=[] from c);exact n
 |v::g,e,f,H,c,n=>by
  let⟨u,@s,rfl,t,E⟩:=c;exact⟨u,s++H,rfl,t,E.app n⟩
def bx.nil{j:aw}{g:List V}(c:bx j g []):g=[]:=by
 cases g with
 |nil=>rfl
 |cons v g=>let⟨W,@W,d,W⟩:=c;cases d
def f3:eS b (fR .Add) eo:=by
 refine (MH.or<|O0.or<|MD.or<|F3.or Il).imp λf H j D z=>?_;let⟨Q_,Rb,@v,n,o,d,p⟩:=z;unfold eo at d;split at d
 ·cases d;exact .inl ⟨_,_,n.i,o.i,b5.i p rfl⟩
 ·rename_i g e;split at d
  ·rename_i h;cases d;let⟨q,@w,rfl,t,E⟩:=n.i;let⟨k,@QJ,rfl,m,c⟩:=o.i;refine .inr ?_;by_cases u:w=[]
   ·subst u;cases E.nil;exact .inl ⟨q,k,QJ,rfl,rfl,cb.of t,cb.of m,b5.i p ⟨k,QJ,rfl,m,c⟩⟩
   ·refine .inr (.inl ⟨q,k,w,QJ,rfl,rfl,cb.of t,cb.of m,u,mQ (by rw[<-E.length,<-c.length];exact h),λy=>?_,λy r s=>b5.t p s<|E.app c⟩);subst y;cases c.nil;rw[cC]at p;exact b5.i p ⟨q,w,rfl,t,E⟩
  ·cases d
 ·rename_i g e;split at d
  ·rename_i h;cases d;let⟨W,q,@w,rfl,t,E,W⟩:=n;let⟨W,k,@QJ,rfl,m,c,W⟩:=o;exact .inr (.inr (.inr (.inl ⟨q,k,w,QJ,rfl,rfl,t,m,mQ (by rw[<-E.length,<-c.length];exact h),λr s=>b5.l p s<|E.app c⟩)))
  ·cases d
 ·rename_i g e;split at d
  ·rename_i h;cases d;exact .inr (.inr<|.inr<|.inr ⟨g,e,n.i,o.i,mQ h,b5.i p rfl⟩)
  ·cases d
 ·cases d
def OK(r:Nat){O:bl}{f H:V}{J u:ae}(n:V.bo r f=X)(aX:V.bo r H=X)(Q:O.units+r+2<bK)(q:dr h.heap f J)(b:dr h.heap H u):SeqAt.RcAt O h J u (cf f H):=by
 cases f with
 |aT=>
  cases (show J=.none from q);cases H with
  |aT=>cases (show u=.none from b);exact Jn
  |ax e=>cases (show u=.bool e from b);exact IH e
  |int i=>let⟨@A,rfl⟩:=b;exact Jo i A
  |str j=>let⟨@A,rfl⟩:=b;exact MS j A
  |tup I=>let⟨g,o,QL,@k,rfl,t,E,l,W⟩:=b;exact Pw ⟨o,t,E,k,l⟩ ⋯
  |fn g=>cases r<;>cases aX
  |aR g=>cases r<;>cases aX
  |fd=>cases r<;>cases aX
 |ax e=>
  cases (show J=.bool e from q);cases H with
  |aT=>cases (show u=.none from b);exact PT e
  |ax m=>cases (show u=.bool m from b);exact OT e m
  |int i=>let⟨@A,rfl⟩:=b;exact M6 e i A
  |str j=>let⟨@A,rfl⟩:=b;exact PS e j A
  |tup I=>let⟨g,o,QL,@k,rfl,t,E,l,W⟩:=b;exact Oi e ⟨o,t,E,k,l⟩ ⋯
  |fn g=>cases r<;>cases aX
  |aR g=>cases r<;>cases aX
  |fd=>cases r<;>cases aX
 |int a=>
  let⟨@c,rfl⟩:=q;cases H with
  |aT=>cases (show u=.none from b);exact Jl a c
  |ax m=>cases (show u=.bool m from b);exact PE a c m
  |int i=>let⟨@A,rfl⟩:=b;exact Pm a c i A
  |str j=>let⟨@A,rfl⟩:=b;exact GF a c j A
  |tup I=>let⟨g,o,QL,@k,rfl,t,E,l,W⟩:=b;exact Mk a c ⟨o,t,E,k,l⟩ ⋯
  |fn g=>cases r<;>cases aX
  |aR g=>cases r<;>cases aX
  |fd=>cases r<;>cases aX
 |str a=>
  let⟨@c,rfl⟩:=q;cases H with
  |aT=>cases (show u=.none from b);exact I2 a c
  |ax m=>cases (show u=.bool m from b);exact Jz a c m
  |int i=>let⟨@A,rfl⟩:=b;exact Hn a c i A
  |str j=>let⟨@A,rfl⟩:=b;exact Gd a c j A
  |tup I=>let⟨g,o,QL,@k,rfl,t,E,l,W⟩:=b;exact Kq a c ⟨o,t,E,k,l⟩ ⋯
  |fn g=>cases r<;>cases aX
  |aR g=>cases r<;>cases aX
  |fd=>cases r<;>cases aX
 |fn g=>cases r<;>cases n
 |aR g=>cases r<;>cases n
 |fd=>cases r<;>cases n
 |tup I=>
  cases r with
  |zero=>cases n
  |succ r=>
  let⟨g,o,QL,@k,rfl,t,E,l,v⟩:=q;have Q9:h.heap.IsTuple g QL:=⟨o,t,E,k,l⟩;cases H with
  |aT=>cases (show u=.none from b);exact HM Q9 ⋯
  |ax m=>cases (show u=.bool m from b);exact Hg m Q9 ⋯
  |int i=>let⟨@A,rfl⟩:=b;exact G4 i A Q9 ⋯
  |str j=>let⟨@A,rfl⟩:=b;exact Ov j A Q9 ⋯
  |fn g=>cases aX
  |aR g=>cases aX
  |fd=>cases aX
  |tup Qs=>
   let⟨e,R,s,@z,rfl,B,C,D,w⟩:=b;have Rp:h.heap.IsTuple e s:=⟨R,B,C,z,D⟩;have aZ:=v.length;have bh:=w.length;have F:QL.toList.length=QL.size:=by simp
   have G:s.toList.length=s.size:=by simp
   rw[F]at aZ;rw[G]at bh;have p:=z5 (A:=O) (e:=λi=>cf (I.getD i .aT)<|Qs.getD i .aT) Q9 Rp ⋯ λi L M=>by
    let⟨@Q_,x,N⟩:=v.get (i:=i) (u:=QL[i]) (by rw[eE];simp[L]);let⟨@Rb,y,P⟩:=w.get (i:=i) (u:=s[i]) (by rw[eE];simp[M]);rw[cx,x,cx,y];exact iq r (jt n x) (jt aX y) (by show O.units+1+r+1<bK;lia) N P
   rw[<-aZ,<-bh,qw (I:=I) (Qs:=Qs) (λi f H g e=>by rw[cx,g,cx,e];rfl)]at p;rw[cf];exact p
@[simp] def d7:fS:=λg e=>match g,e with
 |.im f,.im H=>if (V.bo 8 f&&V.bo 8 H)=X then Z (.im<|.ax<|cf f H) else Y
 |.lst f,.lst H=>if (V.ck 8 f&&V.ck 8 H)=X then Z (.im<|.ax<|dW f H) else Y
 |_,_=>Y
theorem yh:∀{f H:List V},f.length≠H.length->dW f H=aq
 |[],[],c=>absurd rfl c
 |[],_::_,_=>rfl
 |_::_,[],_=>rfl
 |g::f,e::H,c=>by
  rw[dW,yh (λd=>c (by rw[ey,ey,d])),Bool.and_false]
def nO{Q:List (ak×a3)}(G:aA b Q B j h){g:ak}{w:List af}{I:List V}(t:j g=Z (.lst w))(E:bx j I w):∃QD:List ae,h.heap.IsList g QD.toArray/\du h.heap I QD/\QD.length=I.length:=by
 let@⟨z,⟨QD,@r,a,d⟩⟩:=G.a0 g _ t;have:=E.eJ G.a0 a;exact⟨QD,⟨_,d,rfl,r,rfl⟩,this,this.length.symm⟩
def hN(al:b.A.units+20<bK):eS b (dY .Eq) d7:=by
 intro Q h B j f H u J D G r s M;let⟨Q_,Rb,@v,k,m,d,p⟩:=M;unfold d7 at d;split at d
 ·rename_i g e;split at d
  ·rename_i c;cases d;rw[cI]at c;exact OK 8 c.1 c.2 ⋯ (k.i.eJ G.a0 r) (m.i.eJ G.a0 s) b.prog b.w _ _ ⟨.ax _,j,G,rfl,b5.i p rfl⟩
  ·cases d
 ·rename_i g e;split at d
  ·rename_i c;cases d;rw[cI]at c;let⟨W,q,@w,rfl,t,E,W⟩:=k;let⟨W,am,@QJ,rfl,N,P,W⟩:=m;cases r;cases s;let⟨@R,aZ,S,o⟩:=nO G t E;let⟨@T,bh,U,x⟩:=nO G N P;by_cases n:g.length=e.length
   ·have:=Lh (A:=b.A) (e:=λi=>cf (g.getD i .aT)<|e.getD i .aT) aZ bh (by rw[cB,cB,o,x];exact n) ⋯ λi y z=>by
     let⟨@Q_,C,k⟩:=S.get (i:=i) (u:=R.toArray[i]) (by simp at y;simp[y]);let⟨@Rb,F,m⟩:=U.get (i:=i) (u:=T.toArray[i]) (by simp at z;simp[z]);rw[cx,C,cx,F];exact iq 8 (jt c.1 C) (jt c.2 F) (by show b.A.units+1+8+1<bK;lia) k m
    refine this b.prog b.w _ _ ⟨.ax _,j,G,rfl,?_⟩;have L:=qw (I:=g) (Qs:=e) (d:=λi=>cf (g.getD i .aT)<|e.getD i .aT) (λi f H g e=>by rw[cx,g,cx,e];rfl);rw[<-n,zp,kT,BP]at L;rw[cB,o,L];exact b5.i p rfl
   ·refine G_ (A:=b.A) aZ bh (by rw[cB,cB,o,x];simpa using n) ⋯ b.prog b.w _ _ ⟨.ax _,j,G,rfl,?_⟩;rw[yh n]at p;exact b5.i p rfl
  ·cases d
 ·cases d
end
section
variable{b:aJ}
def Nl(r:Nat){O:bl}{f H:V}{J u:ae}(n:V.bo r f=X)(aX:V.bo r H=X)(Q:O.units+r+2<bK)(q:dr h.heap f J)(b:dr h.heap H u):SeqAt.RcNeAt O h J u (!cf f H):=by
 cases f with
 |aT=>
  cases (show J=.none from q);cases H with
  |aT=>cases (show u=.none from b);exact Mx
  |ax e=>cases (show u=.bool e from b);exact OL e
  |int i=>let⟨@A,rfl⟩:=b;exact J_ i A
  |str j=>let⟨@A,rfl⟩:=b;exact HG j A
  |tup I=>let⟨g,o,QL,@k,rfl,t,E,l,W⟩:=b;exact Pj ⟨o,t,E,k,l⟩ ⋯
  |fn g=>cases r<;>cases aX
  |aR g=>cases r<;>cases aX
  |fd=>cases r<;>cases aX
 |ax e=>
  cases (show J=.bool e from q);cases H with
  |aT=>cases (show u=.none from b);exact Mm e
  |ax m=>cases (show u=.bool m from b);exact Kp e m
  |int i=>let⟨@A,rfl⟩:=b;exact JA e i A
  |str j=>let⟨@A,rfl⟩:=b;exact NJ e j A
  |tup I=>let⟨g,o,QL,@k,rfl,t,E,l,W⟩:=b;exact GY e ⟨o,t,E,k,l⟩ ⋯
  |fn g=>cases r<;>cases aX
  |aR g=>cases r<;>cases aX
  |fd=>cases r<;>cases aX
 |int a=>
  let⟨@c,rfl⟩:=q;cases H with
  |aT=>cases (show u=.none from b);exact MI a c
  |ax m=>cases (show u=.bool m from b);exact Pr a c m
  |int i=>let⟨@A,rfl⟩:=b;exact O7 a c i A
  |str j=>let⟨@A,rfl⟩:=b;exact IC a c j A
  |tup I=>let⟨g,o,QL,@k,rfl,t,E,l,W⟩:=b;exact HK a c ⟨o,t,E,k,l⟩ ⋯
  |fn g=>cases r<;>cases aX
  |aR g=>cases r<;>cases aX
  |fd=>cases r<;>cases aX
 |str a=>
  let⟨@c,rfl⟩:=q;cases H with
  |aT=>cases (show u=.none from b);exact Md a c
  |ax m=>cases (show u=.bool m from b);exact IW a c m
  |int i=>let⟨@A,rfl⟩:=b;exact L_ a c i A
  |str j=>let⟨@A,rfl⟩:=b;exact Nf a c j A
  |tup I=>let⟨g,o,QL,@k,rfl,t,E,l,W⟩:=b;exact Kw a c ⟨o,t,E,k,l⟩ ⋯
  |fn g=>cases r<;>cases aX
  |aR g=>cases r<;>cases aX
  |fd=>cases r<;>cases aX
 |fn g=>cases r<;>cases n
 |aR g=>cases r<;>cases n
 |fd=>cases r<;>cases n
 |tup I=>
  cases r with
  |zero=>cases n
  |succ r=>
  let⟨g,o,QL,@k,rfl,t,E,l,v⟩:=q;have Q9:h.heap.IsTuple g QL:=⟨o,t,E,k,l⟩;cases H with
  |aT=>cases (show u=.none from b);exact IJ Q9 ⋯
  |ax m=>cases (show u=.bool m from b);exact PM m Q9 ⋯
  |int i=>let⟨@A,rfl⟩:=b;exact J8 i A Q9 ⋯
  |str j=>let⟨@A,rfl⟩:=b;exact Pk j A Q9 ⋯
  |fn g=>cases aX
  |aR g=>cases aX
  |fd=>cases aX
  |tup Qs=>
   let⟨e,R,s,@z,rfl,B,C,D,w⟩:=b;have Rp:h.heap.IsTuple e s:=⟨R,B,C,z,D⟩;have aZ:=v.length;have bh:=w.length;have F:QL.toList.length=QL.size:=by simp
   have G:s.toList.length=s.size:=by simp
   rw[F]at aZ;rw[G]at bh;have p:=Hf (A:=O) (e:=λi=>cf (I.getD i .aT)<|Qs.getD i .aT) Q9 Rp ⋯ λi L M=>by
    let⟨@Q_,x,N⟩:=v.get (i:=i) (u:=QL[i]) (by rw[eE];simp[L]);let⟨@Rb,y,P⟩:=w.get (i:=i) (u:=s[i]) (by rw[eE];simp[M]);rw[cx,x,cx,y];exact iq r (jt n x) (jt aX y) (by show O.units+1+r+1<bK;lia) N P
   rw[<-aZ,<-bh,qw (I:=I) (Qs:=Qs) (λi f H g e=>by rw[cx,g,cx,e];rfl)]at p;rw[cf];exact p
@[simp] def eB:fS:=λg e=>match g,e with
 |.im f,.im H=>if (V.bo 8 f&&V.bo 8 H)=X then Z (.im<|.ax<|!cf f H) else Y
 |.lst f,.lst H=>if (V.ck 8 f&&V.ck 8 H)=X then Z (.im<|.ax<|!dW f H) else Y
 |_,_=>Y
def jm(al:b.A.units+20<bK):eS b (dY .NotEq) eB:=by
 intro Q h B j f H u J D G r s M;let⟨Q_,Rb,@v,k,m,d,p⟩:=M;unfold eB at d;split at d
 ·rename_i g e;split at d
  ·rename_i c;cases d;rw[cI]at c;exact Nl 8 c.1 c.2 ⋯ (k.i.eJ G.a0 r) (m.i.eJ G.a0 s) b.prog b.w _ _ ⟨.ax _,j,G,rfl,b5.i p rfl⟩
  ·cases d
 ·rename_i g e;split at d
  ·rename_i c;cases d;rw[cI]at c;let⟨W,q,@w,rfl,t,E,W⟩:=k;let⟨W,am,@QJ,rfl,N,P,W⟩:=m;cases r;cases s;let⟨@R,aZ,S,o⟩:=nO G t E;let⟨@T,bh,U,x⟩:=nO G N P;by_cases n:g.length=e.length
   ·have:=HD (A:=b.A) (e:=λi=>cf (g.getD i .aT)<|e.getD i .aT) aZ bh (by rw[cB,cB,o,x];exact n) ⋯ λi y z=>by
     let⟨@Q_,C,k⟩:=S.get (i:=i) (u:=R.toArray[i]) (by simp at y;simp[y]);let⟨@Rb,F,m⟩:=U.get (i:=i) (u:=T.toArray[i]) (by simp at z;simp[z]);rw[cx,C,cx,F];exact iq 8 (jt c.1 C) (jt c.2 F) (by show b.A.units+1+8+1<bK;lia) k m
    refine this b.prog b.w _ _ ⟨.ax _,j,G,rfl,?_⟩;have L:=qw (I:=g) (Qs:=e) (d:=λi=>cf (g.getD i .aT)<|e.getD i .aT) (λi f H g e=>by rw[cx,g,cx,e];rfl);rw[<-n,zp,kT,BP]at L;rw[cB,o,L];exact b5.i p rfl
   ·refine MQ (A:=b.A) aZ bh (by rw[cB,cB,o,x];simpa using n) ⋯ b.prog b.w _ _ ⟨.ax _,j,G,rfl,?_⟩;rw[yh n]at p;exact b5.i p rfl
  ·cases d
 ·cases d
@[simp] def tW(r:Bool):fS:=λg e=>match g,e with
 |.im f,.im .aT=>Z (.im<|.ax<|r != decide (f=.aT))
 |.im (.ax f),.im (.ax H)=>Z (.im<|.ax<|r != (f==H))
 |_,_=>Y
def Gf{v:V}(c:cq j v u):decide (u=.aT)=decide (v=.aT):=by
 cases v with
 |aT=>cases (show u=.aT from c);rfl
 |ax e=>cases (show u=.ax e from c);rfl
 |int e=>cases (show u=.int e from c);rfl
 |str e=>cases (show u=.str e from c);rfl
 |fn e=>cases (show u=.ref e from c);rfl
 |tup I=>let⟨g,@w,rfl,W⟩:=c;rfl
 |aR I=>let⟨g,w,@o,rfl,W⟩:=c;rfl
 |fd=>let⟨g,@o,rfl,W⟩:=c;rfl
def Hd:dI b (dY .IsNot) (λf H j D=>∃g e,f=.ax g/\H=.ax e/\D (.ax<|!(g==e)) j):=by
 intro Q h B j f H u J D G a c d;let⟨g,@e,i,k,p⟩:=d;subst i k;cases a;cases c;refine wpAny_isNot_plain (by cases g<;>cases e<;>rfl) ⟨.ax<|!(g==e),j,G,?_,p⟩;cases g<;>cases e<;>rfl
def Eb:eS b (dY .IsNot) (tW X):=by
 refine (MA.or Hd).imp λf H j D h=>?_;let⟨Q_,Rb,@v,c,e,d,p⟩:=h;unfold tW at d;split at d
 ·rename_i g;cases d;refine .inl ⟨e.i,?_⟩;rw[Gf c.i];refine b5.i p ?_;show _=_;rw[BY]
 ·cases d;refine .inr ⟨_,_,c.i,e.i,b5.i p ?_⟩;show _=_;rw[BY]
 ·cases d
def dC{QP:Type}[DecidableEq QP](QG:List (QP×V))(n:QP):Option V:=((QG.find? λq=>decide (q.1=n)).map (·.2))
theorem oi{QP:Type}[DecidableEq QP]{j:aw}{n:QP}:∀{QG:List (QP×V)}{i:List (QP×af)},ej j QG i->(∀v,dC QG n=Z v->∃u,hh i n=Z u/\cq j v u)/\(dC QG n=Y->hh i n=Y)
 |_,_,.nil=>⟨(λv d=>by cases d),(λ_=>rfl)⟩
 |_,_,.cons (a:=q) (b:=p) c A=>by
  let@⟨t,E⟩:=oi (n:=n) A;by_cases d:q.1=n
  ·have a:p.1=n:=c.1.symm.trans d;refine⟨λv b=>?_,λf=>?_⟩
   ·have:∀s,dC (q::s) n=Z q.2:=λs=>by simp[dC,jC,d]
    rw[this]at b;cases b;exact⟨p.2,se a,c.2⟩
   ·have:∀s,dC (q::s) n=Z q.2:=λs=>by simp[dC,jC,d]
    rw[this]at f;cases f
  ·have a:¬ p.1=n:=λh=>d (c.1.trans h);have:∀s,dC (q::s) n=dC s n:=λs=>by simp[dC,jC,d]
   rw[this,sk a];exact⟨t,E⟩
@[simp] def bD:fS:=λg e=>match g,e with
 |.im (.tup I),.im (.int a)=>(dj I a).map .im
 |.lst I,.im (.int a)=>(dj I a).map .im
 |.cS I,.im (.int a)=>(dj I a).map .im
 |.aH QG,.im (.tup n)=>if V.keys 7 n=X then (dC QG n).map .im else Y
 |.dn QG,.im (.int a)=>(dC QG<|.inl a).map .im
 |.dn QG,.im (.str a)=>(dC QG<|.inr a).map .im
 |_,_=>Y
def K5(a:b.A.units+20<bK):ip b (λf H j D=>∃g u,f=.ref g/\gg j g H (Z u)/\D u j):=by
 intro k n Q h B j f H u J D G c e ⟨g,i,d,L,p⟩ Qx;subst d;cases c;exact tail_any (O2 G L) PySem.F.slot_dict_getitem.lookup (O3 a G L e λo q l m=>⟨i,j,l,m,p⟩) Qx
def vs{a:Int}{v:V}(c:bx j I w)(d:dj I a=Z v):∃u,dj w a=Z u/\cq j v u:=by
 unfold dj at d ⊢;rw[<-c.length];let⟨@i,b,e⟩:=bG.mp d;let⟨@u,f,g⟩:=c.get e;exact⟨u,by rw[b];exact f,g⟩
def Ln(y:b.A.units+20<bK):ip b (λf H j D=>∃Q_ Rb v,eO j Q_ f/\eO j Rb H/\bD Q_ Rb=Z v/\∀u F Qu,cQ j F->cy F v u Qu->Qu.Nodup->(∀g∈Qu,j g=Y)->D u F):=by
 refine (M3.or<|J7.or<|K5 y).imp λf H j D z=>?_;let⟨Q_,Rb,@v,s,x,d,p⟩:=z;unfold bD at d;split at d
 ·let⟨@r,c,h⟩:=cw.mp d;cases h;let⟨q,@w,rfl,t,E⟩:=s.i;let⟨@u,l,m⟩:=vs E c;exact .inr (.inl ⟨q,w,_,u,rfl,x.i,cb.of t,l,b5.i p m⟩)
 ·let⟨@r,c,h⟩:=cw.mp d;cases h;let⟨W,q,@w,rfl,t,E,W⟩:=s;let⟨@u,l,m⟩:=vs E c;exact .inl ⟨q,w,_,u,rfl,x.i,cT.of t,l,b5.i p m⟩
 ·let⟨@r,c,h⟩:=cw.mp d;cases h;let⟨W,q,w,@o,rfl,t,E,W⟩:=s;let⟨@u,l,m⟩:=vs E c;exact .inl ⟨q,w,_,u,rfl,x.i,.inl<|.inr ⟨o,t⟩,l,b5.i p m⟩
 ·rename_i QG n;split at d
  ·rename_i B;let⟨@r,c,h⟩:=cw.mp d;cases h;let⟨W,q,@i,rfl,t,E,W⟩:=s;let⟨@u,l,m⟩:=(oi E).1 r c;let⟨e,@w,rfl,Q0,Q6⟩:=x.i;exact .inr (.inr ⟨q,u,rfl,by rw[<-l];exact gg.t t ⟨B,e,w,rfl,Q0,Q6⟩,b5.i p m⟩)
  ·cases d
 ·rename_i QG a;let⟨@r,c,h⟩:=cw.mp d;cases h;let⟨W,q,@i,rfl,t,E,W⟩:=s;let⟨@u,l,m⟩:=(oi E).1 r c;refine .inr (.inr ⟨q,u,rfl,?_,b5.i p m⟩);rw[show H=b0 (.inl a) from x.i,<-l];exact gg.k t
 ·rename_i QG a;let⟨@r,c,h⟩:=cw.mp d;cases h;let⟨W,q,@i,rfl,t,E,W⟩:=s;let⟨@u,l,m⟩:=(oi E).1 r c;refine .inr (.inr ⟨q,u,rfl,?_,b5.i p m⟩);rw[show H=b0 (.inr a) from x.i,<-l];exact gg.k t
 ·cases d
end
end L2
namespace c4
open Spec PyProof.Rows
section
variable{Qy:bz}{l:bc}{O:bl}{Qt:ae->ah->Prop}{h:ah}
def Kx{A aU:ak}{QD:Array ae}{bZ z:ae}{R S:Option Int}{D:ae->ah->Prop}(q:nQ h.heap A QD)(Qx:h.heap.IsSliceOf aU bZ z .none)(bo:jT bZ R)(a:jT z S)(b:b4 QD.size 0 R=0)(t:b4 QD.size QD.size S=QD.size)(p:D (.ref A) h):wpAny (aO Qy l) O (lT (.ref A)<|.ref aU) D Qt h:=by
 let⟨@M,c,d,e⟩:=id Qx;have ty:h.TypeIs (.ref aU) "slice" := ⟨M,c,d⟩;unfold lT;try with_reducible refine fc ?_
 first|refine av (aS ?_)|skip
 refine av (CA q.typeIs ∅ ?_);refine av (lW (name:=aB.ofString "__getitem__") q.typeIs n5<|iN n5 q.typeIs zu ?_<|Ee _ _);show wpAny _ _ (bq.Tuple.tupleItemsOf (.ref A) >>= _) _ _ h;refine av (zB q ?_);refine av (wpAny_typeOf ty ?_);rw[aE ∅];refine av (CM Qx bo a ?_);rw[b,t];show wpAny _ _ (if (((0:Nat):Int)==0&&(1:Int)==1&&(QD.size-0)==QD.size)=X then _ else _) _ _ h;rw[aE ↥0];refine av (m:=bq.Tuple.tupleIsExact _) (av<|wpAny_typeOf q.typeIs<|aS ?_);show wpAny _ _ (if (ae.type "tuple" == ae.type "tuple")=X then _ else _) _ _ h;rw[aE ∅];exact av (iJ<|aS ⟨_,rfl,aS p⟩)
end
end c4
namespace L2
open Spec PyProof.Rows
section
variable{b:aJ}
@[simp] def lh(L:ay ai):ay ai:=λy=>(L y).bind λq=>match q.1 with
 |.im (.int a)=>Z (.im<|.int<|-a,q.2)
 |_=>Y
variable{L:ay ai}{QK:Pos}
def o4{g:bk}(c:cm b g L):cm b (.UnaryOp .USub g QK) (lh L):=by
 refine er (Hp Jw c) λB j D d=>?_;let⟨y,P,s,@QQ,N,ao,e,p⟩:=d;let⟨@⟨f,QA⟩,t,E⟩:=bG.mp e;refine⟨y,P,f,QA,N,ao,t,λu QB z Qu h QU i=>?_⟩;dsimp only at E;split at E
 ·rename_i a;cases E;exact⟨a,QU.1,p _ QB z [] h ⟨rfl,rfl⟩ (by rw[cC];exact i.both)⟩
 ·cases E
def HH(L:ay (Option Int)):cJ:=(λB j D=>∃y P x QQ,bt j y B P/\P.Nodup/\L y=Z (x,QQ)/\∀F Q3,bt F QQ B Q3->bp j P F Q3->D x F)
def rX(b:aJ)(d:Option bk)(L:ay (Option Int)):Prop:=(∀ ⦃q⦄,B6 b d (HH L) q)
def D6{d:Option bk}{A QZ:cJ}(c:od b d A)(a:∀B j D,QZ B j D->A B j D):od b d QZ:=λQ h B j D G e=>c Q h B j D G (a B j D e)
def lJ:ay (Option Int):=(λy=>Z (Y,y))
@[simp] def kr(L:ay ai):ay (Option Int):=λy=>(L y).bind λq=>match q.1 with
 |.im (.int a)=>Z (Z a,q.2)
 |_=>Y
def vS:rX b Y lJ:=by
 refine D6 IZ λB j D a=>?_;let⟨y,P,s,@QQ,N,ao,c,p⟩:=a;cases c;exact p j P N (bp.perm ao<|List.Perm.refl _)
variable{d:bk}
def qX(c:cm b d L):rX b (Z d) (kr L):=by
 refine D6 (MO c) λB j D e=>?_;let⟨y,P,s,@QQ,N,ao,g,p⟩:=e;let⟨@⟨f,QA⟩,t,E⟩:=bG.mp g;refine⟨y,P,f,QA,N,ao,t,λu QB z Qu h QU i=>?_⟩;dsimp only at E;split at E
 ·rename_i a;cases E;exact⟨a,QU.1,p QB z h i.both⟩
 ·cases E
def fm{QT:Type}(w:List QT)(R S:Option Int):List QT:=((w.drop<|c4.b4 w.length 0 R).take (c4.b4 w.length w.length S-c4.b4 w.length 0 R))
variable{j:aw}
theorem bx.drop:∀{I:List V}{w:List af} (r:Nat),bx j I w->bx j (I.drop r) (w.drop r)
 |I,w,0,c=>c
 |[],w,r+1,c=>by cases (show w=[] from c);exact rfl
 |v::I,w,r+1,c=>by
  let⟨u,@s,rfl,t,E⟩:=c;exact E.drop r
theorem bx.take:∀{I:List V}{w:List af} (r:Nat),bx j I w->bx j (I.take r) (w.take r)
 |I,w,0,c=>rfl
 |[],w,r+1,c=>by cases (show w=[] from c);exact rfl
 |v::I,w,r+1,c=>by
  let⟨u,@s,rfl,t,E⟩:=c;exact⟨u,_,rfl,t,E.take r⟩
def bx.cut{I:List V}{w:List af}(R S:Option Int)(c:bx j I w):bx j (fm I R S) (lD w R S):=by
 unfold fm lD;rw[c.length];exact (c.drop _).take _
@[simp] def nt(v:ai)(R S:Option Int):Option ai:=match v with
 |.im (.tup I)=>Z (.im<|.tup<|fm I R S)
 |.lst I=>Z (.lst<|fm I R S)
 |.cS I=>Z (.lst<|fm I R S)
 |_=>Y
def H3(Qw:Φ):af->Option Int->Option Int->aw->cz->Prop:=(λf R S j D=>∃g w,f=.ref g/\cb Qw j g w/\c4.b4 w.length 0 R=0/\c4.b4 w.length w.length S=w.length/\D (.ref g) j)
def HN:q8 b (λf R S j D=>∃v s,eO j v f/\nt v R S=Z s/\b5 j s D):=by
 have all:q8 b (H3 b.K):=by
  intro Q h B j f u bZ z R S aU D G e Qx bo k c;let⟨g,@w,rfl,F,H,t,p⟩:=c;cases e;let⟨@QD,s,bf,L⟩:=G.tuple F;have C:QD.toArray.size=w.length:=by rw[cB];exact s.length.symm
  exact⟨"tuple",_,n5.lookup,bf.typeIs,c4.Kx bf Qx bo k (by rw[C];exact H) (by rw[C];exact t) ⟨.ref g,j,G,rfl,p⟩⟩
 intro Q h B j f u bZ z R S aU D G e Qx bo k J;let⟨v,@s,y,d,p⟩:=J;unfold nt at d;split at d
 ·rename_i I;cases d;let⟨q,@w,rfl,t,E⟩:=y.i;by_cases m:c4.b4 w.length 0 R=0/\c4.b4 w.length w.length S=w.length
  ·refine all Q h B j _ u bZ z R S aU D G e Qx bo k ⟨q,w,rfl,cb.of t,m.1,m.2,b5.i p ⟨q,w,rfl,t,?_⟩⟩;have:fm I R S=I:=by
    unfold fm;rw[E.length,m.1,m.2,kh,DQ,<-E.length,oO]
   rw[this];exact E
  ·exact GC Q h B j _ u bZ z R S aU D G e Qx bo k ⟨q,w,rfl,cb.of t,m,λr n=>b5.t p n<|E.cut R S⟩
 ·cases d;let⟨W,q,@w,rfl,t,E,W⟩:=y;exact EW Q h B j _ u bZ z R S aU D G e Qx bo k ⟨q,w,rfl,cT.of t,λr n=>b5.l p n<|E.cut R S⟩
 ·cases d;let⟨W,q,w,@o,rfl,t,E,W⟩:=y;exact EW Q h B j _ u bZ z R S aU D G e Qx bo k ⟨q,w,rfl,.inl<|.inr ⟨o,t⟩,λr n=>b5.l p n<|E.cut R S⟩
 ·cases d
@[simp] def j4(L:ay bJ)(x c:ay (Option Int)):ay ai:=λy=>(L y).bind λq=>(x q.2).bind λp=>(c p.2).bind λs=>(ew s.2 q.1).bind λv=>(nt v p.1 s.1).map λa=>(a,s.2)
def uF{R S:Option bk}{L:ay bJ}{k m:ay (Option Int)}{Rf:Pos}(q:dE b d L)(r:rX b R k)(w:rX b S m):cm b (.Subscript d (.Slice R S Y Rf) QK) (j4 L k m):=by
 refine er (Ii HN q r w) λB j D A=>?_;let⟨y,P,s,@QQ,N,ao,C,p⟩:=A;let⟨@⟨f,QA⟩,t,E⟩:=bG.mp C;let⟨@⟨x,Q4⟩,F,G⟩:=bG.mp E;let⟨@⟨J,Rr⟩,H,I⟩:=bG.mp G;let⟨@v,M,O⟩:=bG.mp I;let⟨@bn,Q,T⟩:=cw.mp O;cases T;refine⟨y,P,f,QA,N,ao,t,λu QB z Qu al Q5 a=>⟨QA,z,x,Q4,al,(dk.mp a.ao).1,F,λQN QV am n=>⟨Q4,QV,J,Rr,am,n.ao,H,λan ap e as=>?_⟩⟩⟩;have h:=n.seq as;have U:hK an B f u Qu:=Q5.mono h.tup λg a1 o d=>h.keep g o d λc=>(dk.mp a.ao).2.2 g c g a1 rfl;have a2:=a.trans h Q5.chg;exact⟨v,_,U.read e M,Q,λl bd be i QU bi bm=>p l bd ap be (e.mono i.tupS λg W o d=>i g o d) QU<|a2.new i bi bm e.chg⟩
abbrev h6:=List ai->Option ai
@[simp] def dy:h6:=λI=>match I with
 |[.im (.tup f)]=>Z (.im<|.int f.length)
 |[.lst f]=>Z (.im<|.int f.length)
 |[.cS f]=>Z (.im<|.int f.length)
 |[.hU f]=>Z (.im<|.int f.length)
 |[.dn f]=>Z (.im<|.int f.length)
 |[.im (.str f)]=>if f.length<=100000 then Z (.im<|.int f.length) else Y
 |_=>Y
variable{U:List af}
def f7{v:ai}(c:l0 j [v] U):∃u,U=[u]/\eO j v u:=by
 let⟨u,@s,rfl,t,E⟩:=c;cases (show s=[] from E);exact⟨u,rfl,t⟩
def Bf{v d:ai}(c:l0 j [v,d] U):∃u J,U=[u,J]/\eO j v u/\eO j d J:=by
 let⟨u,@s,rfl,t,E⟩:=c;let⟨@J,rfl,a⟩:=f7 E;exact⟨u,J,rfl,t,a⟩
def ej.length{QP:Type}{x:List (QP×V)}{k:List (QP×af)}(c:ej j x k):x.length=k.length:=d0.length c
def gG:g8 b (.builtin "len") dy:=by
 refine (PQ.or<|Lb.or OE).imp λw j D f=>?_;let⟨I,@v,e,d,p⟩:=f;unfold dy at d;split at d
 ·cases d;let⟨@u,rfl,c⟩:=f7 e;let⟨q,@w,rfl,t,E⟩:=c.i;exact .inl ⟨q,w,rfl,.inr<|cb.of t,by rw[<-E.length];exact b5.i p rfl⟩
 ·cases d;let⟨@u,rfl,⟨W,q,@w,rfl,t,E,W⟩⟩:=f7 e;exact .inl ⟨q,w,rfl,.inl<|cT.of t,by rw[<-E.length];exact b5.i p rfl⟩
 ·cases d;let⟨@u,rfl,⟨W,q,w,@o,rfl,t,E,W⟩⟩:=f7 e;exact .inl ⟨q,w,rfl,.inl<|.inl<|.inr ⟨o,t⟩,by rw[<-E.length];exact b5.i p rfl⟩
 ·cases d;let⟨@u,rfl,⟨W,q,w,@QE,rfl,t,E,W⟩⟩:=f7 e;exact .inl ⟨q,w,rfl,.inl<|cT.of t,by rw[<-E.length];exact b5.i p rfl⟩
 ·cases d;let⟨@u,rfl,⟨W,q,@i,rfl,t,E,W⟩⟩:=f7 e;exact .inr (.inr ⟨q,i,rfl,t,by rw[<-E.length];exact b5.i p rfl⟩)
 ·split at d
  ·rename_i g;cases d;let⟨@u,rfl,c⟩:=f7 e;cases (show u=_ from c.i);exact .inr (.inl ⟨_,rfl,mQ g,b5.i p rfl⟩)
  ·cases d
 ·cases d
@[simp] def kF:h6:=λI=>match I with
 |[v]=>(iS v).map λf=>.im (.tup f)
 |_=>Y
@[simp] def qR:h6:=λI=>match I with
 |[v]=>(iS v).map .lst
 |_=>Y
def sW:g8 b (.type "tuple") kF:=by
 refine Oh.imp λw j D h=>?_;let⟨I,@v,k,d,p⟩:=h;unfold kF at d;split at d
 ·let⟨@f,e,l⟩:=cw.mp d;cases l;let⟨@u,rfl,c⟩:=f7 k;unfold iS at e;split at e
  ·cases e;let⟨q,@w,rfl,t,E⟩:=c.i;exact⟨q,w,rfl,.inr ⟨cb.of t,b5.i p ⟨q,w,rfl,t,E⟩⟩⟩
  ·cases e;let⟨W,q,@w,rfl,t,E,W⟩:=c;exact⟨q,w,rfl,.inl ⟨cT.of t,λx g=>b5.t p g E⟩⟩
  ·cases e;let⟨W,q,w,@o,rfl,t,E,W⟩:=c;exact⟨q,w,rfl,.inl ⟨.inl<|.inr ⟨o,t⟩,λx g=>b5.t p g E⟩⟩
  ·cases e
 ·cases d
def wy:g8 b (.type "list") qR:=by
 refine GZ.imp λw j D h=>?_;let⟨I,@v,k,d,p⟩:=h;unfold qR at d;split at d
 ·let⟨@f,e,m⟩:=cw.mp d;cases m;let⟨@u,rfl,c⟩:=f7 k;unfold iS at e;split at e
  ·cases e;let⟨q,@w,rfl,t,E⟩:=c.i;exact⟨q,w,rfl,.inr<|cb.of t,λx g=>b5.l p g E⟩
  ·cases e;let⟨W,q,@w,rfl,t,E,W⟩:=c;exact⟨q,w,rfl,.inl<|cT.of t,λx g=>b5.l p g E⟩
  ·cases e;let⟨W,q,w,@o,rfl,t,E,W⟩:=c;exact⟨q,w,rfl,.inl<|.inl<|.inr ⟨o,t⟩,λx g=>b5.l p g E⟩
  ·cases e
 ·cases d
@[simp] def vInt:h6:=λI=>match I with
 |[.im (.int a)]=>Z (.im<|.int a)
 |[.im (.ax e)]=>Z (.im<|.int<|if e then 1 else 0)
 |_=>Y
def MY:g8 b (.type "int") vInt:=by
 refine G7.imp λw j D f=>?_;let⟨I,@v,e,d,p⟩:=f;unfold vInt at d;split at d
 ·cases d;let⟨@u,rfl,c⟩:=f7 e;cases (show u=_ from c.i);exact .inl ⟨_,rfl,b5.i p rfl⟩
 ·cases d;let⟨@u,rfl,c⟩:=f7 e;cases (show u=_ from c.i);exact .inr ⟨_,rfl,b5.i p rfl⟩
 ·cases d
@[simp] def yA:h6:=λI=>match I with
 |[.im (.int a),.im<|.int i]=>Z (.im<|.int<|if i>a then i else a)
 |_=>Y
@[simp] def xy:h6:=λI=>match I with
 |[.im (.int a),.im<|.int i]=>Z (.im<|.int<|if i<a then i else a)
 |_=>Y
def GU(e:b.calm=X):g8 b (.builtin "max") yA:=by
 refine (Ip e).imp λw j D f=>?_;let⟨I,@v,g,d,p⟩:=f;unfold yA at d;split at d
 ·cases d;let⟨u,@J,rfl,c,n⟩:=Bf g;cases (show u=_ from c.i);cases (show J=_ from n.i);exact⟨_,_,rfl,b5.i p rfl⟩
 ·cases d
def Kn(e:b.calm=X):g8 b (.builtin "min") xy:=by
 refine (JD e).imp λw j D f=>?_;let⟨I,@v,g,d,p⟩:=f;unfold xy at d;split at d
 ·cases d;let⟨u,@J,rfl,c,n⟩:=Bf g;cases (show u=_ from c.i);cases (show J=_ from n.i);exact⟨_,_,rfl,b5.i p rfl⟩
 ·cases d
@[simp] def mG:List V->Option (List Bool)
 |[]=>Z []
 |.ax e::I=>(mG I).map λs=>e::s
 |_::_=>Y
theorem zW{j:aw}:∀{I:List V}{w:List af}{bs:List Bool},bx j I w->mG I=Z bs->w=bs.map af.ax
 |[],w,bs,c,d=>by cases d;exact c
 |.ax e::I,w,bs,c,d=>by
  let⟨u,@s,rfl,t,E⟩:=c;rw[mG]at d;let⟨@q,a,b⟩:=cw.mp d;cases b;cases (show u=.ax e from t);rw[zW E a];rfl
 |.aT::_,_,_,_,d=>by cases d
 |.int _::_,_,_,_,d=>by cases d
 |.str _::_,_,_,_,d=>by cases d
 |.tup _::_,_,_,_,d=>by cases d
 |.fn _::_,_,_,_,d=>by cases d
 |.aR _::_,_,_,_,d=>by cases d
 |.fd::_,_,_,_,d=>by cases d
@[simp] def lZ:h6:=λI=>match I with
 |[.lst f]=>(mG f).map λbs=>.im (.ax<|bs.all id)
 |_=>Y
def rB(c:b.calm=X):g8 b (.builtin "all") lZ:=by
 refine (Ka c).imp λw j D e=>?_;let⟨I,@v,g,d,p⟩:=e;unfold lZ at d;split at d
 ·let⟨@f,h,k⟩:=cw.mp d;cases k;let⟨@u,rfl,⟨W,q,@w,rfl,t,E,W⟩⟩:=f7 g;rw[zW E h]at t;exact⟨q,f,rfl,t,b5.i p rfl⟩
 ·cases d
end
section
variable{b:aJ}
def xB:ai->Option Nat
 |.im (.int _)=>Z 0
 |.im (.ax _)=>Z 1
 |.im (.str _)=>Z 2
 |.im (.tup _)=>Z 3
 |.im .aT=>Z 4
 |.lst _=>Z 4
 |.im (.aR _)=>Z 4
 |.im .fd=>Z 4
 |.aH _=>Z 4
 |.dn _=>Z 4
 |_=>Y
@[simp] def vm(Qq:String)(v:ai):Option Bool:=
 (xB v).bind λn=>if Qq = "int" then Z (n==0 || n==1) else if Qq = "bool" then Z (n==1) else if Qq = "str" then Z (n==2) else if Qq = "tuple" then Z (n==3) else Y
variable{Qq:String}{e:Bool}
def F0{v:ai}(c:vm Qq v=Z e):∃n,xB v=Z n/\((Qq = "int" /\ e=(n==0 || n==1))\/(Qq = "bool" /\ e=(n==1))\/(Qq = "str" /\ e=(n==2))\/(Qq = "tuple" /\ e=(n==3))):=by
 let⟨@n,d,c⟩:=bG.mp c;refine⟨n,d,?_⟩;by_cases t:Qq = "int"
 ·rw[aE t]at c;cases c;exact .inl ⟨t,rfl⟩
 rw[aK t]at c;by_cases E:Qq = "bool"
 ·rw[aE E]at c;cases c;exact .inr (.inl ⟨E,rfl⟩)
 rw[aK E]at c;by_cases a:Qq = "str"
 ·rw[aE a]at c;cases c;exact .inr (.inr<|.inl ⟨a,rfl⟩)
 rw[aK a]at c;by_cases b:Qq = "tuple"
 ·rw[aE b]at c;cases c;exact .inr (.inr<|.inr ⟨b,rfl⟩)
 rw[aK b]at c;cases c
def mq{O QO aL y Qr:Prop}(c:O\/QO\/aL\/y)(g:O->Qr)(e:QO->Qr)(m:aL->Qr)(v:y->Qr):Qr:=c.elim g λc=>c.elim e λc=>c.elim m v
variable{Q:List (ak×a3)}{j:aw}{h:ah}
def En{B:aW}(G:aA b Q B j h){g:ak}(c:(∃n,j g=Z (.aH n))\/∃n,j g=Z (.dn n)):∃o,h.heap.get? g=Z o/\o.cls=.type "dict" := by
 rcases c with ⟨n,c⟩|⟨n,c⟩
 ·let@⟨_,_,⟨@w,_,⟨o,Qs,@Rc,t,E,_⟩⟩⟩:=(show eK b.prog b.w j h.heap g (.aH n) from G.a0 g _ c);exact⟨o,t,E.1⟩
 ·let@⟨_,_,⟨@U,_,⟨o,Qs,@Rc,t,E,_⟩⟩⟩:=(show eK b.prog b.w j h.heap g (.dn n) from G.a0 g _ c);exact⟨o,t,E.1⟩
def JC{B:aW}(G:aA b Q B j h){g:ak}{q:a3}(c:j g=Z (.dP q<|.aH [])):∃o,h.heap.get? g=Z o/\o.cls=.type "dict" := by
 let@⟨_,_,_,⟨@w,_,⟨o,Qs,@Rc,t,E,_⟩⟩⟩:=(show eK b.prog b.w j h.heap g (.dP q<|.aH []) from G.a0 g _ c);exact⟨o,t,E.1⟩
def KW:ep b (.builtin "isinstance") (λw j D=>∃f Qq v e,w=[f,.ty Qq]/\eO j v f/\vm Qq v=Z e/\D (.ax e) j):=by
 intro Q h B j w QR D G s c;let⟨f,Qq,v,@e,rfl,m,S,p⟩:=c;have hD:=s;cases s with
 |cons s F=>
  cases F with
  |cons Ra F=>
   cases F;cases Ra;have q:∀{e:Bool},D (.ax e) j->d4 b Q B D (.bool e) {h with toks:=h.toks+1}:=λ{e} p=>⟨.ax e,j,G.tok _,rfl,p⟩;let⟨@n,k,u⟩:=F0 S;have r:e=aq->D (.ax aq) j:=λd=>d ▸ p;have H:∀{g:ak},n=4->(∃o,h.heap.get? g=Z o/\o.cls=.type "dict")->wpAny (aO b.prog b.w) b.A (call (.builtin "isinstance") [.ref g,.type Qq]) (d4 b Q B D) b.cE h:=by
    rintro g rfl ⟨o,y,z⟩;refine mq u (λ⟨d,C⟩=>d ▸ IsiPair.dict_int y z (q<|r C)) (λ⟨d,C⟩=>d ▸ IsiPair.dict_bool y z (q<|r C)) (λ⟨d,C⟩=>d ▸ IsiPair.dict_str y z (q<|r C)) λI=>?_;let@⟨d,C⟩:=I;exact d ▸ IsiPair.dict_tuple y z (q<|r C)
   have x:ER b.K j f Qq e->wpAny (aO b.prog b.w) b.A (call (.builtin "isinstance") [_,.type Qq]) (d4 b Q B D) b.cE h:=λL=>OQ Q h B j _ _ D G hD ⟨f,Qq,e,rfl,L,p⟩;have J:∀{g:ak}{w:List af},n=4->f=.ref g->cT b.K j g w->wpAny (aO b.prog b.w) b.A (call (.builtin "isinstance") [_,.type Qq]) (d4 b Q B D) b.cE h:=λ{g w} k d M=>by
    subst k;exact x (.inr<|.inr<|.inr<|.inr ⟨g,w,d,M,mq u (λc=>.inr<|.inl c) (λc=>.inr<|.inr<|.inr<|.inl c) (λc=>.inr<|.inr<|.inl c) λc=>.inr<|.inr<|.inr<|.inr c⟩)
   unfold xB at k;split at k
   ·cases k;exact x (.inl ⟨_,m.i,mq u .inl (λc=>.inr<|.inr<|.inr<|.inl c) (λc=>.inr<|.inr<|.inl c) λc=>.inr<|.inl c⟩)
   ·cases k;exact x (.inr<|.inl ⟨_,m.i,mq u (λc=>.inr<|.inl c) .inl (λc=>.inr<|.inr<|.inr<|.inl c) λc=>.inr<|.inr<|.inl c⟩)
   ·cases k;exact x (.inr<|.inr<|.inl ⟨_,m.i,mq u (λc=>.inr<|.inl c) (λc=>.inr<|.inr<|.inr<|.inl c) .inl λc=>.inr<|.inr<|.inl c⟩)
   ·cases k;let⟨g,@w,d,t,E⟩:=m.i;exact x (.inr<|.inr<|.inr<|.inl ⟨g,w,d,cb.of t,mq u (λc=>.inr<|.inl c) (λc=>.inr<|.inr<|.inr<|.inl c) (λc=>.inr<|.inr<|.inl c) .inl⟩)
   ·cases k;cases (show f=.aT from m.i);cases s;refine mq u (λ⟨d,C⟩=>d ▸ IsiPair.NoneType_int (q<|r C)) (λ⟨d,C⟩=>d ▸ IsiPair.NoneType_bool (q<|r C)) (λ⟨d,C⟩=>d ▸ IsiPair.NoneType_str (q<|r C)) λI=>?_;let@⟨d,C⟩:=I;exact d ▸ IsiPair.NoneType_tuple (q<|r C)
   ·cases k;let⟨W,g,@w,d,t,E,W⟩:=m;exact J rfl d (cT.of t)
   ·cases k;let⟨g,w,@o,d,t,E⟩:=m.i;exact J rfl d (.inl<|.inr ⟨o,t⟩)
   ·cases k;let⟨g,@o,rfl,t⟩:=m.i;cases s;exact H rfl (JC G t)
   ·cases k;let⟨W,g,@w,rfl,t,E,W⟩:=m;cases s;exact H rfl (En G<|.inl ⟨_,t⟩)
   ·cases k;let⟨W,g,@w,rfl,t,E,W⟩:=m;cases s;exact H rfl (En G<|.inr ⟨_,t⟩)
   ·cases k
@[simp] def lY(Qq:String)(L:ay bJ):ay ai:=λy=>(L y).bind λq=>(ew q.2 q.1).bind λv=>(vm Qq v).map λe=>(.im<|.ax e,q.2)
variable{f:aB}{d:bk}{L:ay bJ}{QK:Pos}
def nE{q Rf:Pos}(h:d3 b "isinstance")(i:b.aI "isinstance" = Y)(k:ez "isinstance" = Z (.builtin "isinstance"))(l:d3 b f)(m:b.aI f=Y)(n:ez f=Z (.type Qq))(c:dE b d L)(r:f ≠ "__name__" := by decide)(w:(f==("__debug__" : aB))=aq:=by decide)(a:bQ [d,.Name f Rf] b.env=(aq,b8 d b.env)::bQ [.Name f Rf] b.env:=by rfl)(x:bQ [.Name f Rf] b.env=(aq,b8 (.Name f Rf) b.env)::bQ [] b.env:=by rfl)(A:(gh QK<|bQ [.Name f Rf] b.env).any (·.1)=aq:=by rfl):cm b (.Call (.Name "isinstance" q) [d,.Name f Rf] [] QK) (lY Qq L):=by
 refine er (B5 KW h i k (xe c (xe (F1 (u:=.ty Qq) l m n rfl r w) Ek x) a) ∅ ∅ a A) λB j D C=>?_;let⟨y,P,s,@QQ,N,ao,F,p⟩:=C;let⟨@⟨o,QA⟩,t,E⟩:=bG.mp F;let⟨@v,G,H⟩:=bG.mp E;let⟨@e,I,J⟩:=cw.mp H;cases J;exact⟨y,P,o,QA,N,ao,t,λu QB z Qu g Q5 M=>⟨u,Qq,v,e,rfl,Q5.read g G,I,p _ QB z [] g ⟨rfl,rfl⟩ (by rw[cC];exact M.both)⟩⟩
@[simp] def oy:ai->Option Bool
 |.im .aT=>Z aq
 |.im (.ax e)=>Z e
 |.im (.int a)=>Z (a != 0)
 |.im (.str f)=>if f.length<=100000 then Z ((f.length:Int) != 0) else Y
 |.im (.tup I)=>Z (!I.isEmpty)
 |.lst I=>Z (!I.isEmpty)
 |.cS I=>Z (!I.isEmpty)
 |.dn QG=>Z (!QG.isEmpty)
 |_=>Y
def bx.emp{I:List V}{w:List af}(c:bx j I w):(!w.isEmpty)=!I.isEmpty:=by
 cases I with
 |nil=>cases (show w=[] from c);rfl
 |cons v I=>let⟨u,@s,rfl,W⟩:=c;rfl
def NB{v:ai}{u:af}(c:eO j v u)(d:oy v=Z e):vI b.K u j e:=by
 unfold oy at d;split at d
 ·cases d;cases (show u=_ from c.i);rfl
 ·cases d;cases (show u=_ from c.i);rfl
 ·cases d;cases (show u=_ from c.i);rfl
 ·split at d
  ·rename_i f;cases d;cases (show u=_ from c.i);exact⟨mQ f,rfl⟩
  ·cases d
 ·cases d;let⟨q,@w,rfl,t,E⟩:=c.i;exact .inr (.inl ⟨w,cb.of t,E.emp.symm⟩)
 ·cases d;let⟨W,q,@w,rfl,t,E,W⟩:=c;exact .inl ⟨w,cT.of t,E.emp.symm⟩
 ·cases d;let⟨W,q,w,@o,rfl,t,E,W⟩:=c;exact .inl ⟨w,.inl<|.inr ⟨o,t⟩,E.emp.symm⟩
 ·cases d;let⟨W,q,@i,rfl,t,E,W⟩:=c;refine .inr (.inr ⟨i,t,?_⟩);cases E<;>rfl
 ·cases d
@[simp] def fU(L:ay bJ):ay Bool:=λy=>(L y).bind λq=>(ew q.2 q.1).bind λv=>(oy v).map λe=>(e,q.2)
def g5(c:dE b d L)(g:∀a,oD d b.env a=(do let u <-a;standAt d.pos;holding [u] (truthy u)):=by intro W;rfl):hW b d (fU L):=by
 refine tg (GV c g) λB j D h=>?_;let⟨y,P,e,@QQ,N,ao,i,p⟩:=h;let⟨@⟨o,QA⟩,t,E⟩:=bG.mp i;let⟨@v,k,l⟩:=bG.mp E;let⟨@r,m,n⟩:=cw.mp l;cases n;exact⟨y,P,o,QA,N,ao,t,λu QB z Qu f Q5 q=>⟨_,NB (Q5.read f k) m,p QB z f q.both⟩⟩
def jk{a:aB}{A:hH}(c:d3 b f)(d:b.aI f=Z (.str a A))(e:(f==("__debug__" : aB))=aq:=by decide):cm b (.Name f QK) (aC<|.str a):=uc (JB (u:=.str a) c d ⟨A,rfl⟩ e) λ_=>rfl
end
variable{x RB:Pos}{o:bk}{id Qq:String}{name:aB}{L:ay (List bJ)}{a:Nat}{ty:ai->Bool}{Qw:Φ}{R:fY}{g:ak}{j:aw}
def bp.chg{P z:List ak}(b:g∈P)(m:gq j g)(ao:z.Nodup)(cn:∀f∈z,f∈P):bp j P (upd j g R) z:=by
 let⟨@o,d,bf,c⟩:=m;refine⟨λf J Rh a=>?_,λf a=>.inl<|cn f a,ao,fM.of (λf w Rh=>?_)<|λf q J Rh=>?_,λf J Rh=>?_⟩
 ·rw[cU (λe=>a (by rw[e];exact b))];exact Rh
 ·rw[cU]
  ·exact Rh
  ·rintro rfl;rw[d]at Rh;exact bf w (Option.some.inj Rh)
 ·rw[cU]
  ·exact Rh
  ·rintro rfl;rw[d]at Rh;exact c q J (Option.some.inj Rh)
 ·by_cases a:f=g
  ·subst a;exact⟨R,fa⟩
  ·exact⟨J,(cU a).trans Rh⟩
theorem cq.lK(m:gq j g):oM j (upd j g R):=(bp.chg (P:=[g]) (z:=[]) (.head _) m gY<|λf a=>nomatch a).tup.tup
def pe(b:aJ)(id:String)(bR:ai->List ai->Option (ai×ai)):Prop:=(
 u3 b id λf U j D=>∃m I s a Qu QI,cy j m f Qu/\dU j I U QI/\(Qu++QI).Nodup/\bR m I=Z (s,a)/\∀u F c bS,cy F s u c->cy F a f bS->bp j (Qu++QI) F (c++bS)->D u F)
@[simp] def hO:ai->Bool
 |.lst _=>X
 |.hU _=>X
 |_=>aq
@[simp] def hb(ty:ai->Bool)(a:Nat)(bR:ai->List ai->Option (ai×ai))(L:ay (List bJ)):ay ai:=λy=>match y[a]? with
 |some (Z b)=>if ty b=X then (L y).bind λq=>(e3 q.1 q.2).bind λp=>match p.2[a]? with
   |some (Z m)=>(bR m p.1).map λs=>(s.1,p.2.set a<|Z s.2)
   |_=>Y
  else Y
 |_=>Y
def Fc{bR:ai->List ai->Option (ai×ai)}{B:aW}{D:cz}(C:∀j m f Qu,cy j m f Qu->ty m=X->l6 Qw Qq f j)(c:mh (hb ty a bR L) B j D):∃f,B[a]?=Z (Z f)/\l6 Qw Qq f j/\gw L B j λU QN=>∃m I s e Qu QI,cy QN m f Qu/\dU QN I U QI/\(Qu++QI).Nodup/\bR m I=Z (s,e)/\∀u F i bS,cy F s u i->cy F e f bS->bp QN (Qu++QI) F (i++bS)->D u F:=by
 let⟨y,P,s,@QQ,N,ao,b,p⟩:=c;unfold hb at b;split at b
 ·rename_i G H;split at b
  ·rename_i bf;let⟨f,bm,@bn,k,J,W,W⟩:=N.out H;refine⟨f,k,C j G f _ J bf,?_⟩;let⟨@⟨M,QA⟩,t,E⟩:=bG.mp b;let⟨@⟨I,Q4⟩,Q,h⟩:=bG.mp E;refine⟨y,P,M,QA,N,ao,t,λU QB z i R Q5 S=>?_⟩;let⟨QV,@QI,al,QU,T⟩:=nM R Q5 Q;dsimp only at h;split at h
   ·rename_i m am;let⟨@⟨Ra,e⟩,an,ap⟩:=cw.mp h;cases ap;let⟨bs,Qu,@n,q,as,r,a1⟩:=al.out am;rw[k]at q;cases q;have v:bp j P QB ((Qu++QI)++n):=S.kW (T.symm.trans ((e8 QI a1.symm).trans (by
     rw[bA];exact c6)))
    have w:=dk.mp v.ao;refine⟨m,I,_,e,Qu,QI,as,QU,w.1,an,λu F O QO a2 iu l=>?_⟩;have bd:bt F (Q4.set a<|Z .dS) B n:=r.mono l.tup λg be o d=>l.keep g o d λc=>w.2.2 g c g be rfl;let⟨x,@QE,A,bi⟩:=bd.back iu k;rw[yu]at A;refine p u F x O A a2 ((v.trans l r.chg).less (aL:=QE) ?_);rw[bA];refine (dT x c6).trans ?_;rw[<-bA];refine (e8 O bi).trans ?_;rw[bA];refine c6.trans ?_;rw[bA];refine c6.trans ?_;rw[bA,bA];refine (dT O ?_);exact c6
   ·cases h
  ·cases b
 ·cases b
section
variable{b:aJ}
def mW:∀(j:aw) (m:ai) (f:af) (Qu:List ak),cy j m f Qu->hO m=X->l6 Qw "list" f j:=by
 intro j m f Qu c d;cases m with
 |lst I=>let⟨g,@w,rfl,t,W⟩:=c;exact .inl ⟨rfl,w,cT.of t⟩
 |hU I=>let⟨g,w,@QE,rfl,t,W⟩:=c;exact .inl ⟨rfl,w,cT.of t⟩
 |_=>cases d
def n0{bR:ai->List ai->Option (ai×ai)}{d:bk}{Qs:List bk}(e:∀j m f Qu,cy j m f Qu->ty m=X->l6 b.K Qq f j)(bL:tF Qq)(g:Slot Qq name id)(bf:qG (.builtin id)=pure (.type "method_descriptor"))(h:pe b id bR)(i:bN b o (ni a))(k:fv b (d::Qs) L)(l:t8 o name b.env (b8 o b.env)=b8 o b.env:=by rfl)(n:((gh x<|bQ (d::Qs) b.env).all (λf=>!f.1)&&(backToKw x<|keywordEach [] b.env).all (λf=>f.1.isSome)
   && decide ((d::Qs).length+([]:List rk).length+(if ([]:List rk).isEmpty then 0 else 1)<30))=X:=by rfl)(p:(RB.endLine==x.line)=X:=by rfl)(Qx:bQ (d::Qs) b.env=(aq,b8 d b.env)::bQ Qs b.env:=by rfl)(q:(gh x<|bQ Qs b.env).any (·.1)=aq:=by rfl):
  cm b (.Call (.Attribute o name RB) (d::Qs) [] x) (hb ty a bR L):=
 er (Gr bL g bf h i k l n p Qx q) λB j D c=>by
  let⟨@f,r,t,E⟩:=Fc e c;exact⟨f,r,t,E⟩
def Ht{bR:ai->List ai->Option (ai×ai)}(d:∀j m f Qu,cy j m f Qu->ty m=X->l6 b.K Qq f j)(bL:tF Qq)(e:Slot Qq name id)(bf:qG (.builtin id)=pure (.type "method_descriptor"))(g:pe b id bR)(h:bN b o (ni a))(i:t8 o name b.env (b8 o b.env)=b8 o b.env:=by rfl)(k:(RB.endLine==x.line)=X:=by rfl):
  cm b (.Call (.Attribute o name RB) [] [] x) (hb ty a bR aF):=
 er (HE bL e bf g h i k) λB j D c=>by
  let⟨@f,l,t,E⟩:=Fc d c;refine⟨f,l,t,?_⟩;let⟨y,P,s,@QQ,N,ao,n,p⟩:=E;cases n;exact p [] j P [] N ⟨rfl,rfl⟩ (by rw[cC];exact bp.perm ao (List.Perm.refl _))
@[simp] def lr:ai->List ai->Option (ai×ai):=λm I=>match m,I with
 |.lst w,[.im v]=>if w.length<100000 then Z (.im .aT,.lst<|w++[v]) else Y
 |_,_=>Y
def w4{r:Nat}(c:r<100000):r<sizeLine:=e5 c ∅
def px:pe b "list.append" lr:=by
 intro Q h B j f U u QR D G a c e;let⟨m,I,s,q,Qu,@QI,i,k,ao,d,p⟩:=e;unfold lr at d;split at d
 ·split at d
  ·rename_i l;cases d;let⟨g,@QJ,rfl,t,E,rfl⟩:=i;let⟨H,A,r,@v,rfl,@⟨n,rfl⟩,@⟨rfl,rfl⟩,rfl⟩:=k;have m:gq j g:=⟨_,t,(λ_ d=>by cases d),(λ_ W d=>by cases d)⟩;refine NK Q h B j _ _ u QR D G a c ⟨g,QJ,H,rfl,rfl,t,w4 (by rw[<-E.length];exact l),p .aT _ [] [g] ⟨rfl,rfl⟩ ?_ (bp.chg (.head _) m (eY _ _) λf o=>by simpa using o)⟩;exact⟨g,_,rfl,fa,(E.snoc n).mono<|cq.lK m,rfl⟩
  ·cases d
 ·cases d
@[simp] def rb:ai->List ai->Option (ai×ai):=λm I=>match m,I with
 |.lst w,[]=>(w.getLast?).map λv=>(.im v,.lst w.dropLast)
 |_,_=>Y
def bx.last{I:List V}{w:List af}{v:V}(c:bx j I w)(d:I.getLast?=Z v):∃u,w[w.length-1]?=Z u/\cq j v u/\bx j I.dropLast w.dropLast:=by
 rw[BE]at d;let⟨@u,a,b⟩:=c.get d;refine⟨u,by rw[<-c.length];exact a,b,?_⟩;rw[DK,DK,<-c.length];exact c.take _
def Nm:pe b "list.pop" rb:=by
 intro Q h B j f U u QR D G a c e;let⟨m,I,s,x,Qu,@QI,i,k,ao,d,p⟩:=e;unfold rb at d;split at d
 ·let⟨@v,l,n⟩:=cw.mp d;cases n;let⟨g,@QJ,rfl,t,E,rfl⟩:=i;let@⟨rfl,rfl⟩:=k;let⟨@H,o,q,r⟩:=E.last l;have m:gq j g:=⟨_,t,(λ_ d=>by cases d),(λ_ W d=>by cases d)⟩;refine Oa Q h B j _ _ u QR D G a c ⟨g,QJ,H,rfl,rfl,t,o,p H _ [] [g] ⟨q.mono<|cq.lK m,rfl⟩ ?_ (bp.chg (.head _) m (eY _ _) λf w=>by simpa using w)⟩;exact⟨g,_,rfl,fa,r.mono<|cq.lK m,rfl⟩
 ·cases d
@[simp] def qz:ai->List ai->Option (ai×ai):=λm I=>match m,I with
 |.lst w,[.im (.int a)]=>if 0<=a/\a<w.length then (w[a.toNat]?).map λv=>(.im v,.lst<|w.eraseIdx a.toNat) else Y
 |_,_=>Y
theorem bx.erase:∀{I:List V}{w:List af} (r:Nat),bx j I w->bx j (I.eraseIdx r) (w.eraseIdx r)
 |[],w,r,c=>by cases (show w=[] from c);exact rfl
 |v::I,w,0,c=>by let⟨u,@s,rfl,t,E⟩:=c;exact E
 |v::I,w,r+1,c=>by let⟨u,@s,rfl,t,E⟩:=c;exact⟨u,_,rfl,t,E.erase r⟩
def Hs:pe b "list.pop" qz:=by
 intro Q h B j f U u QR D G c e i;let⟨m,I,s,y,Qu,@QI,k,l,ao,d,p⟩:=i;unfold qz at d;split at d
 ·rename_i a;split at d
  ·rename_i S;let⟨@v,n,o⟩:=cw.mp d;cases o;let⟨g,@QJ,rfl,t,E,rfl⟩:=k;let⟨H,A,z,@C,rfl,@⟨q,rfl⟩,@⟨rfl,rfl⟩,rfl⟩:=l;cases (show H=.int a from q);let⟨@H,r,w⟩:=E.get n;have m:gq j g:=⟨_,t,(λ_ d=>by cases d),(λ_ W d=>by cases d)⟩;have F:QJ.length<=sizeLine:=(G.a0 g _ t).1;have J:=nf;refine LX Q h B j _ _ u QR D G c e ⟨g,QJ,a,a.toNat,H,rfl,rfl,t,⋯,by have:=E.length;lia,r7 S.1 (by rw[<-E.length];exact S.2),r,p H _ [] [g] ⟨w.mono<|cq.lK m,rfl⟩ ?_ (bp.chg (.head _) m (eY _ _) λf x=>by simpa using x)⟩;exact⟨g,_,rfl,fa,(E.erase _).mono<|cq.lK m,rfl⟩
  ·cases d
 ·cases d
def sA(b:aJ)(pt:ai->ai->ai->Option ai):Prop:=(
 w8 b λo a u j D=>∃m n v c Qu QI,cy j m o Qu/\cy j n a []/\cy j v u QI/\(Qu++QI).Nodup/\pt m n v=Z c/\∀F d,cy F c o d->bp j (Qu++QI) F d->D F)
@[simp] def ow(m n v:ai):Option ai:=match m,n,v with
 |.lst w,.im<|.int a,.im v=>(i_ w.length a).map λi=>.lst (w.set i v)
 |_,_,_=>Y
theorem bx.set{j:aw}{v:V}{u:af}(l:cq j v u):∀{I:List V}{w:List af} (r:Nat),bx j I w->bx j (I.set r v) (w.set r u)
 |[],w,r,c=>by cases (show w=[] from c);exact rfl
 |d::I,w,0,c=>by let⟨J,@s,rfl,t,E⟩:=c;exact⟨u,s,rfl,l,E⟩
 |d::I,w,r+1,c=>by let⟨J,@s,rfl,t,E⟩:=c;exact⟨J,_,rfl,t,bx.set l r E⟩
def z7:sA b ow:=by
 intro Q h B j o a u c e J D G k l q r;let⟨m,n,v,C,Qu,@QI,s,gM,w,ao,d,p⟩:=r;unfold ow at d;split at d
 ·let⟨@i,x,y⟩:=cw.mp d;cases y;let⟨g,@QJ,rfl,t,E,rfl⟩:=s;let@⟨z,rfl⟩:=w;have m:gq j g:=⟨_,t,(λ_ d=>by cases d),(λ_ W d=>by cases d)⟩;refine K1 Q h B j _ _ _ c e J D G k l q ⟨g,QJ,_,i,rfl,gM.1,t,by rw[<-E.length];exact x,p _ [g] ?_ (bp.chg (.head _) m (eY _ _) λf A=>by simpa using A)⟩;exact⟨g,_,rfl,fa,(bx.set z i E).mono<|cq.lK m,rfl⟩
 ·cases d
@[simp] def kb(a:Nat)(b:ay ai)(pt:ai->ai->ai->Option ai):fg:=λv y=>match y[a]? with
 |some (Z _)=>(b y).bind λq=>if q.1.ei=X then match q.2[a]? with
   |some (Z m)=>(pt m q.1 v).map λc=>q.2.set a (Z c)
   |_=>Y
  else Y
 |_=>Y
def nJ{QX:List Nat}{n:bk}{w:ay ai}{pt:ai->ai->ai->Option ai}{QK:Pos}(L:bN b o (ni a))(M:cm b n w)(O:sA b pt)(e:∀u,hC (.Subscript o n QK) b.env u=(do
   let i <-holding [u] (b8 o b.env)
   let q <-holding [u,i] (b8 n b.env)
   standAt QK
   holding [u,i,q] (sm i q u)
   release [u,i,q] []):=by intro W;rfl):gS b QX (.Subscript o n QK) (kb a w pt):=by
 refine s8 (PC L M O e) λu B j D Q=>?_;let⟨y,P,v,Qu,@QQ,N,QU,ao,k,p⟩:=Q;unfold kb at k;split at k
 ·rename_i bs R;let⟨f,bv,@ca,r,cd,W,W⟩:=N.out R;let⟨@⟨h,QA⟩,t,E⟩:=bG.mp k;split at E
  ·rename_i S;refine⟨f,r,y,P,h,QA,N,(dk.mp ao).1,t,λce QB z ch T gM l=>?_⟩;obtain rfl:=gM.ei S;rw[cC]at l;have U:=dk.mp ao;dsimp only at E;split at E
   ·rename_i m al;let⟨@am,an,ap⟩:=cw.mp E;cases ap;let⟨ci,x,@A,C,as,G,a1⟩:=T.out al;rw[r]at C;cases C;have a2:cy QB v u Qu:=QU.mono l.tup λg e o d=>l.keep g o d λc=>U.2.2 g c g e rfl;have H:bp j (P++Qu) QB ((x++Qu)++A):=by
     have bd:bp j (P++Qu) j (P++Qu):=bp.perm ao (List.Perm.refl _);have:=bp.trans (z:=P) (Qu:=Qu) bd l QU.chg;refine this.kW ((e8 Qu a1.symm).trans ?_);rw[bA];exact c6
    have I:=dk.mp H.ao;refine⟨m,h,v,am,x,Qu,as,gM,a2,I.1,an,λF cl be s=>?_⟩;have bi:bt F (QA.set a<|Z .dS) B A:=G.mono s.tup λg e o d=>s.keep g o d λc=>I.2.2 g c g e rfl;let⟨bm,@QE,J,bn⟩:=bi.back be r;rw[yu]at J;exact p B F bm dz.refl J ((H.trans s G.chg).less<|bn.trans c6)
   ·cases E
  ·cases E
 ·cases k
end
end L2
namespace L2
open Spec PyProof.Rows PySem.W
variable{QM:List Int}{q:Array Nat}{QT:Type}
def HL(x:List QT)(v:QT):(range x.length).map (λa=>x.getD a v)=x:=by
 apply D3
 ·simp
 ·intro a t E;simp[List.getD,E]
def we{x:List QT}{v:QT}(c:cP x.length q):(q.toList.map λa=>x.getD a v).Perm x:=by
 have:=vt (λa=>x.getD a v) c;rw[HL]at this;exact this
theorem rO{QT Rk:Type}{P:QT->Rk->Prop}:∀{b:List QT}{d:List Rk},b.length=d.length->(∀(a:Nat) g e,b[a]?=Z g->d[a]?=Z e->P g e)->d0 P b d
 |[],[],_,_=>.nil
 |g::x,e::k,c,C=>.cons (C 0 g e rfl rfl) (rO ⇑c λa f H t E=>C (a+1) f H ⇑t ⇑E)
 |[],_::_,c,_=>by simp at c
 |_::_,[],c,_=>by simp at c
section
variable{Qy:bz}{l:bc}{O:bl}{Qt:ae->ah->Prop}{h:ah}{U:List ae}
def zm{QO:ak}{p:Nat}{Qr:PySem.Fin->ah->Prop}(M:Nat->Int)(QP:gf)(f:h.heap.get? QO=Z (fX "list" U.toArray p))(C:2<=U.length->∀b:aV,(∀e o,e≠QO->h.heap.get? e=Z o->b.get? e=Z o)->∀D:gf->ah->Prop,D QP {h with heap:=b}->wpAny (aO Qy l) O (wu U.toArray) D Qt {h with heap:=b})(F:∀b:aV,(∀e o,e≠QO->h.heap.get? e=Z o->b.get? e=Z o)->fz U.length M (eQ Qy l O QP<|U.toArray.zip U.toArray) {h with heap:=b})(up:U.length<1001\/∀i,1<=i->i<U.length->M (i-1)<=M i)(G:U.length<=1000)(c:∀(q:Array Nat) (T:aV),cP U.length q->kU M q U.length->(∀e o,e≠QO->h.heap.get? e=Z o->T.get? e=Z o)->(∃d,T.get? QO=Z (fX "list" (q.toList.map λa=>U.getD a ae.none).toArray d))->
   Qr (.done<|.ret .none) {h with heap:=T}):wpAny (aO Qy l) O (bq.«list.sort» ⟨[.ref QO],[]⟩) Qr Qt h:=by
 have y:U.length<=sizeLine:=eG G ∅;rw[list_sort_plain];have al:QO<h.heap.objs.size:=b1 f;refine av (listItems_at f rfl (av (zK f rfl ?_ (hsz:=by rw[cB];exact y) (hsz2:=by show 0<=_;exact fo _))));have r:=zC f (λ_=>#[]);generalize am:(if (#[]:Array ae).size==U.toArray.size then p else p+1)=z at r;refine av (seqEpoch_at r rfl (av (B9 (av<|yv<|fc ?_) ⇑y)));have j:∀e o,e≠QO->h.heap.get? e=Z o->(((h.heap.update QO<|a3.mapSeq λ_=>#[]).push<|fX "tuple" U.toArray.toList.toArray 0).push<|fX "list" ([]:List ae).toArray 0).get? e=Z o:=λe o k d=>
  b6 _ (b6 _<|(j9 _ _<|fP k).trans d);have I:(((h.heap.update QO<|a3.mapSeq λ_=>#[]).push<|fX "tuple" U.toArray.toList.toArray 0).push<|fX "list" ([]:List ae).toArray 0).get? QO=Z (fX "list" #[] z):=
  b6 _ (b6 _ r);show wpAny (aO Qy l) O _ Qr Qt {h with heap:=((h.heap.update QO<|a3.mapSeq λ_=>#[]).push<|fX "tuple" U.toArray.toList.toArray 0).push (fX "list" ([]:List ae).toArray 0)};generalize ((h.heap.update QO<|a3.mapSeq λ_=>#[]).push<|fX "tuple" U.toArray.toList.toArray 0).push (fX "list" ([]:List ae).toArray 0)=b at j I ⊢;have A:∀(N:br) (q:Array Nat),cP U.length q->kU M q U.length->arrOf N=q.map (a8<|U.toArray.zip U.toArray)->ht N=Y->
   wpAny (aO Qy l) O (do
    let P:=(<-seqEpoch QO) != z
    bq.List.listUpdate (.ref QO) λ_=>(arrOf N).map (·.2)
    if let Z d:=ht N then rule "list.sort.comparison-raised";throw d
    if P then rule "list.sort.modified";raiseError "ValueError" "list modified during sort"
    ret .none) Qr Qt {h with heap:=b}:=λN q n t u w=>by
  have out:=kat_snds (ks:=U) (vs:=U) rfl u;rw[out,w];refine av (seqEpoch_at (s:={h with heap:=b}) I rfl (av (zK (s:={h with heap:=b}) I rfl ?_ (hsz:=fo _) (hsz2:=by
   show (List.toArray<|q.toList.map λa=>U.getD a ae.none).size<=_;rw[cB,bj,dp,n.size];lia))))
  simp only[bne_self_eq_false,gu,e1];refine aS (c q _ n t (λe o k d=>(j9 _ _<|fP k).trans<|j e o k d) ⟨_,zC I λ_=>_⟩)
 dsimp only;by_cases E:U.toArray.size<2
 ·rw[aE E,aE E];refine av (aS ?_);rw[StateT.run_pure];apply av;apply aS;have x:U.length<2:=by simpa using E
  refine A (br.mk' general' (U.toArray.zip U.toArray) #[] 7 Y) (range U.length).toArray (List.Perm.refl _) (λa i an ap=>?_) ?_ rfl
  ·have:a=i:=⋯
   subst this;exact jJ _
  ·have:=kas_range (U.toArray.zip U.toArray);rw[show (U.toArray.zip U.toArray).size=U.length by simp]at this;exact this.symm
 ·rw[aK E,aK E];have x:2<=U.length:=by simpa using E
  refine av (C x b j _ ?_)
  ·have Q:=F b j;have B:=kas_range (U.toArray.zip U.toArray);rw[show (U.toArray.zip U.toArray).size=U.length by simp]at B;have run:=Nc (Qt:=Qt) (D:=λ_ N Qp=>Qp={h with heap:=b}/\∃q,cP U.length q/\kU M q U.length/\arrOf N=q.map (a8<|U.toArray.zip U.toArray)/\ht N=Y) Q
    x up λR as g e m v=>⟨rfl,R,g,e,m,v⟩;unfold tQ at run;rw[B]at run;refine av (gQ run (λs Qp S=>?_) λ_ W d=>d);let⟨J,N⟩:=s;let@⟨rfl,⟨@q,n,t,u,w⟩⟩:=S;exact A N q n t u w
end
section
variable{b:aJ}{Q:List (ak×a3)}{B:L2.aW}{j:aw}{h:ah}
def D1(bm:b.calm=X){g:ak}{QJ:List af}{QD:List ae}{r:Nat}{Qq:String}{o:a3}{D:cz}(M:Nat->Int)(QP:gf)(G:aA b Q B j h)(I:bM QJ QD)(U:Qq = "list" \/ Qq = "tuple")(d:h.heap.get? g=Z o)(aC:o.cls=.type Qq)(al:o.data=.seq QD.toArray r)(bn:QJ.length<=1000)(am:2<=QD.length->∀(c:aV) (Q1:Nat),(∀e o,h.heap.get? e=Z o->c.get? e=Z o)->∀(O:bl) (Qt:ae->ah->Prop) (D:gf->ah->Prop),D QP {h with heap:=c,toks:=Q1}->wpAny (aO b.prog b.w) O (wu QD.toArray) D Qt {h with heap:=c,toks:=Q1})(an:∀(c:aV) (Q1:Nat),(∀e o,h.heap.get? e=Z o->c.get? e=Z o)->fz QD.length M (eQ b.prog b.w b.A.in1.in1 QP<|QD.toArray.zip QD.toArray) {h with heap:=c,toks:=Q1})(up:QD.length<1001\/∀i,1<=i->i<QD.length->M (i-1)<=M i)(p:∀(q:Array Nat) x,cP QD.length q->kU M q QD.length->j x=Y->D (.ref x) (upd j x<|.lst<|q.toList.map λa=>QJ.getD a .aT)):
  wpAny (aO b.prog b.w) b.A (call (.builtin "sorted") [.ref g]) (d4 b Q B D) b.cE h:=by
 have bs:QJ.length=QD.length:=I.length;have L:QD.length<=sizeLine:=eG ⋯ (show 1000<=sizeLine by decide);refine A1 kind_sorted A7 Fy (zg _) ?z
 case z=>
  unfold bq.«sorted»;refine av (m:=checkCount "sorted" 1 1 _) (aS (av (wpAny_collect_seq g U d aC al (λT v=>?_) (by rw[cB];exact L))));show wpAny _ _ (rv QD >>= _) _ _ _;refine av (yv ?_ L);have N:(T.push<|fX "list" QD.toArray 0).get? T.objs.size=Z (fX "list" QD.toArray 0):=c_ _ rfl;have bu:∀e o,h.heap.get? e=Z o->(T.push<|fX "list" QD.toArray 0).get? e=Z o:=λe o d=>b6 _ (v e o d);have P:aA b Q B j {h with heap:=T}:=G.kept (QZ:=h.toks) v;have R:∀e o,h.heap.get? e=Z o->e≠T.objs.size:=λe o d=>c1 (b1<|v e o d);refine av (fc<|iN Ce ⟨_,N,rfl⟩ Fj ?H<|BL _)
  case H=>
   refine zm (h:={h with heap:=T.push (fX "list" QD.toArray 0)}) M QP N (λE c y D ap=>am E c h.toks (λe o m=>y e o (R e o m)<|bu e o m) _ _ D ap) (λc y=>an c h.toks λe o m=>y e o (R e o m)<|bu e o m) up ⋯ λq E C as Q6 ⟨a1,a2⟩=>⟨_,rfl,aS ⟨_,rfl,?_⟩⟩;have bd:j T.objs.size=Y:=P.a0.fresh (a5 _);have be:∀e o,T.get? e=Z o->e≠T.objs.size:=λe o d=>c1 (b1 d);refine⟨.ref T.objs.size,upd j T.objs.size<|.lst<|q.toList.map λa=>QJ.getD a .aT,?_,rfl,p q _ C as bd⟩;refine P.laid (QZ:=h.toks) (λe J d=>Q6 e J (be e J d)<|b6 _ d) (a5 _) ⟨?_,_,a1,?_,a2⟩
   ·rw[bj,dp,C.size];lia
   ·refine rO ↥0 λa u J t E=>?_;rw[eH]at t E;cases F:q.toList[a]? with
    |none=>rw[F]at t;cases t
    |some n=>
     rw[F]at t E;cases t;cases E;have S:n<QD.length:=e0.mp (C.mem_iff.mp<|fe F);let⟨@J,s,bi⟩:=I.get (a:=n) (f:=QJ[n]'⋯) (by simp[show n<QJ.length by lia]);rw[eb S]at s;have s:=Option.some.inj s;simp only[List.getD,eb S,eb (show n<QJ.length by lia),sN];rw[s];exact bi
end
def nW(QM:List Int)(a:Nat):Int:=(QM.getD a 0)
def NH(ao:QM.Nodup):∀a i,a<QM.length->i<QM.length->nW QM a=nW QM i->a=i:=λa i S b d=>by
 unfold nW at d;rw[cx,cx,eb S,eb b]at d;have e:QM[a]=QM[i]:=d;rcases mu a i with c|c|c
 ·exact absurd e ((mm.mp ao) a i S b c)
 ·exact c
 ·exact absurd e.symm ((mm.mp ao) i a b S c)
def OY(b:cP QM.length q)(up:kU (nW QM) q QM.length)(ao:QM.Nodup):(q.toList.map λa=>QM.getD a 0).Pairwise (· < ·):=by
 rw[mm];intro a i S c f;have Qx:=b.size;have h:a<QM.length:=by simpa [Qx] using S
 have d:i<QM.length:=by simpa [Qx] using c
 have ne:=b.ne (NH ao) f d;have le:=up a i ⋯ d;have L:∀n (e:n<(q.toList.map λa=>QM.getD a 0).length),(q.toList.map λa=>QM.getD a 0)[n]=a7 (nW QM) q n:=λn e=>by
  have g:n<q.size:=by simpa using e
  rw[Dv,As];show _=QM.getD (q.getD n 0) 0;simp[Array.getD,g]
 rw[L a S,L i c];lia
section
variable{b:aJ}
theorem sf{j:aw}:∀{QM:List Int}{QD:List ae},bM (QM.map af.int) QD->∀(a:Nat),a<QM.length->∃A,QD[a]?=Z (.int (QM.getD a 0) A)
 |r::s,_,.cons g e,0,c=>by let⟨@A,rfl⟩:=g;exact⟨A,rfl⟩
 |r::s,_,.cons g e,a+1,c=>by
  let⟨@A,d⟩:=sf (j:=j) e a ⇑c;exact⟨A,by simpa using d⟩
def PU(o:b.calm=X):ep b (.builtin "sorted") (λw j D=>∃(g:ak) (QM:List Int),w=[.ref g]/\j g=Z (.lst<|QM.map af.int)/\QM.Nodup/\QM.length<=1000/\
  ∀x (k:List Int),j x=Y->k.Perm QM->k.Pairwise (· < ·)->D (.ref x) (upd j x<|.lst<|k.map af.int)):=by
 intro Q h B j w QR D G s c;let⟨g,@QM,rfl,v,ao,y,p⟩:=c;let⟨@J,rfl,C⟩:=hF s;cases C;let@⟨z,⟨QD,@r,e,d⟩⟩:=G.a0 g _ v;have l:QD.length=QM.length:=by rw[<-e.length,bj]
 refine D1 o (nW QM) oneType' G e (.inl rfl) d rfl rfl (by rw[bj];exact y) (λE F Q1 n O Qt D H=>?_) (λF Q1 n=>?_) (.inl ⋯) λq x f m aR=>?_
 ·refine kas_kind (T:=ae.type "int") E (λu I=>?_) ∅ ∅ H;let⟨@a,S⟩:=tS I;let⟨@A,bf⟩:=sf (j:=j) e a (by rw[<-l];exact (e9.mp S).1);rw[S]at bf;cases bf;exact Fn rfl
 ·intro a i aL S P p;let⟨@A,t⟩:=sf (j:=j) e a ⋯;let⟨@J,E⟩:=sf (j:=j) e i ⋯;unfold eQ;rw[s6 rfl,s6 rfl,cx,cx,t,E];show wpAny _ _ (keyLt' oneType' (.int _ A)<|.int _ J) _ _ _;rw[keyLt'_oneType];exact oneLt_int p
 ·rw[l]at f m;have L:(q.toList.map λa=>(QM.map af.int).getD a .aT)=(q.toList.map λa=>QM.getD a 0).map af.int:=by
   rw[gz];refine nP λn M=>?_;have N:n<QM.length:=e0.mp (f.mem_iff.mp M);show (QM.map af.int).getD n .aT=af.int (QM.getD n 0);simp[List.getD,N]
  rw[L];exact p x _ aR (we f) (OY f m ao)
end
end L2
namespace L2
open Spec PyProof.Rows
section
variable{b:aJ}
def gb:List V->List V->List V
 |f::w,H::QJ=>.tup [f,H]::gb w QJ
 |_,_=>[]
theorem E3:∀(w QJ:List V),(gb w QJ).length=min w.length QJ.length
 |[],QJ=>by simp[gb]
 |f::w,[]=>by simp[gb]
 |f::w,H::QJ=>by simp[gb,E3 w QJ]
theorem Bt:∀(w QJ:List V) (a:Nat) (v:V),(gb w QJ)[a]?=Z v->∃f H,w[a]?=Z f/\QJ[a]?=Z H/\v=.tup [f,H]
 |[],QJ,a,v,c=>by simp[gb]at c
 |f::w,[],a,v,c=>by simp[gb]at c
 |f::w,H::QJ,0,v,c=>by simp[gb]at c;exact⟨f,H,rfl,rfl,c.symm⟩
 |f::w,H::QJ,a+1,v,c=>by
  let⟨g,e,t,E,b⟩:=Bt w QJ a v (by simpa [gb] using c);exact⟨g,e,by simpa using t,by simpa using E,b⟩
@[simp] def pD(L:ay (List bJ)):js:=λy=>(L y).bind λq=>(gA q.2 q.1).bind λI=>match I with
 |[.im (.tup f),.im<|.tup H]=>Z ((gb f H,Y),q.2)
 |_=>Y
theorem M1{Qw:Φ}{j:aw}{g e:ak}{w QJ:List af}{I Qs:List V}(c:j g=Z (.tup w))(b:bx j I w)(T:j e=Z (.tup QJ))(i:bx j Qs QJ):lp (uh Qw g e) j [] (gb I Qs) where
 go:=λF A n a v d=>by
  let⟨f,H,q,r,rfl⟩:=Bt I Qs a v d;let⟨u,k,s⟩:=b.get q;let⟨J,Q0,Q6⟩:=i.get r;have l:=cb.of (Qw:=Qw) (A.tup g _ c);have m:=cb.of (Qw:=Qw) (A.tup e _ T);refine⟨⟨w,QJ,u,J,l,m,k,Q0⟩,λB D ⟨Qq,E,G,C,t,x,y,z⟩=>?_⟩;subst t x;have o:=y w l;have p:=z QJ m;rw[k]at o;rw[Q0]at p;cases o;cases p;have h:cQ F (upd F Qq<|.tup [u,J]):=(cQ.refl F).upd C;exact⟨h,Qq,[u,J],rfl,fa,⟨u,[J],rfl,(s.mono A.tup).mono h.tupS.tup,J,[],rfl,(Q6.mono A.tup).mono h.tupS.tup,rfl⟩⟩
 stop:=λF A n=>⟨w,QJ,cb.of<|A.tup g _ c,cb.of<|A.tup e _ T,by rw[E3,<-b.length,<-i.length];lia⟩
def Pq{g e:bk}{L:ay (List bJ)}{q QK:Pos}{Qs:List bk}{RD:Nat}{QF:Pos}(i:d3 b "zip")(k:b.aI "zip" = Y)(a:fv b [g,e] L)(Qx:bQ [g,e] b.env=[(aq,b8 g b.env),(aq,b8 e b.env)]:=by rfl)(l:bQ [e] b.env=[(aq,b8 e b.env)]:=by rfl):
  lj b (.Tuple Qs RD QF) (.Call (.Name "zip" q) [g,e] [] QK) (pD L):=by
 refine xY (MF i k a Qx l) λB j A ⟨y,P,s,QQ,N,ao,m,p⟩=>?_;let⟨⟨M,QA⟩,t,E⟩:=bG.mp m;let⟨I,n,c⟩:=bG.mp E;refine⟨y,P,M,QA,N,ao,t,λU QB z C f Q5 o=>?_⟩;have r:=Q5.read f n;split at c
 ·cases c;let⟨u,J,rfl,d,v⟩:=x7 r;let⟨g,w,rfl,Q0,Q6⟩:=d;let⟨e,QJ,rfl,h,x⟩:=v;exact⟨g,e,rfl,⟨w,cb.of Q0⟩,⟨QJ,cb.of h⟩,p _ QB z [] f (M1 Q0 Q6 h x) trivial (λg a=>nomatch a) (by rw[cC];exact o.both)⟩
 ·cases c
@[simp] def Qk:h6:=λI=>match I with
 |[.im (.int a),.im<|.int i,.im<|.int n]=>Z (.im<|.int<|min (min a i) n)
 |_=>Y
def jF(lt:V->V->Bool)(f:V):List V->List V
 |[]=>[f]
 |H::s=>if lt f H=X then f::H::s else H::jF lt f s
def hX(lt:V->V->Bool):List V->List V
 |[]=>[]
 |f::s=>jF lt f (hX lt s)
def tc:V->V->Bool
 |.int a,.int i=>decide (a<i)
 |_,_=>aq
def p8:List V->Option (List Int)
 |[]=>Z []
 |.int a::s=>(p8 s).map λh=>a::h
 |_::_=>Y
@[simp] def vr:h6:=λI=>match I with
 |[.lst f]=>(p8 f).bind λQM=>if QM.Nodup/\QM.length<=1000 then Z (.lst<|hX tc f) else Y
 |_=>Y
def l3(f:Int):List Int->List Int
 |[]=>[f]
 |H::s=>if f<H then f::H::s else H::l3 f s
def o_:List Int->List Int
 |[]=>[]
 |f::s=>l3 f (o_ s)
theorem Bs(f:Int):∀x:List Int,jF tc (.int f) (x.map .int)=(l3 f x).map .int
 |[]=>rfl
 |H::s=>by
  rw[cH,jF,l3,tc];by_cases c:f<H
  ·rw[aE ⇑c,aE c];rfl
  ·rw[aK ⇑c,aK c,Bs f s];rfl
theorem CK:∀x:List Int,hX tc (x.map .int)=(o_ x).map .int
 |[]=>rfl
 |f::s=>by rw[cH,hX,CK s,Bs];rfl
theorem xT(f:Int):∀x:List Int,(l3 f x).Perm (f::x)
 |[]=>List.Perm.refl _
 |H::s=>by
  rw[l3];split
  ·exact List.Perm.refl _
  ·exact ((xT f s).cons H).trans (List.Perm.swap f H s)
theorem vb:∀x:List Int,(o_ x).Perm x
 |[]=>List.Perm.refl _
 |f::s=>(xT f _).trans ((vb s).cons f)
theorem BZ(f:Int):∀x:List Int,x.Pairwise (·<=·)->(l3 f x).Pairwise (·<=·)
 |[],_=>eY _ _
 |H::s,c=>by
  let⟨t,E⟩:=gH.mp c;rw[l3];split
  ·rename_i d;refine gH.mpr ⟨λb a=>?_,c⟩;rcases cu.mp a with rfl|a
   ·lia
   ·have:=t b a;lia
  ·rename_i d;refine gH.mpr ⟨λb a=>?_,BZ f s E⟩;rcases cu.mp ((xT f s).mem_iff.mp a) with rfl|a
   ·lia
   ·exact t b a
theorem um:∀x:List Int,(o_ x).Pairwise (·<=·)
 |[]=>List.Pairwise.nil
 |f::s=>BZ f _ (um s)
def N9{x:List Int}(c:x.Nodup):(o_ x).Pairwise (· < ·):=by
 have t:=um x;have E:(o_ x).Nodup:=(vb x).nodup_iff.mpr c;exact M7 (λg e f H=>⋯) t E
theorem zl:∀{x k:List Int},x.Perm k->x.Pairwise (· < ·)->k.Pairwise (· < ·)->x=k
 |[],k,c,_,_=>c.nil_eq
 |g::x,[],c,_,_=>absurd c.length_eq ↥0
 |g::x,e::k,c,f,h=>by
  have a:=gH.mp f;have b:=gH.mp h;have d:g=e:=by
   rcases cu.mp (c.mem_iff.mp<|.head _) with z|z
   ·exact z
   ·rcases cu.mp (c.mem_iff.mpr<|.head _) with H|H
    ·exact H.symm
    ·have t:=a.1 e H;have E:=b.1 g z;omega
  subst d;rw[zl c.cons_inv a.2 b.2]
theorem Ea:∀{f:List V}{QM:List Int},p8 f=Z QM->f=QM.map .int
 |[],QM,c=>by cases c;rfl
 |.int a::s,QM,c=>by
  rw[p8]at c;let⟨h,t,rfl⟩:=cw.mp c;rw[Ea t];rfl
 |.aT::_,_,c=>by cases c
 |.ax _::_,_,c=>by cases c
 |.str _::_,_,c=>by cases c
 |.tup _::_,_,c=>by cases c
 |.fn _::_,_,c=>by cases c
 |.aR _::_,_,c=>by cases c
 |.fd::_,_,c=>by cases c
theorem yL{j:aw}:∀{QM:List Int}{U:List af},bx j (QM.map .int) U->U=QM.map af.int
 |[],U,c=>c
 |r::s,U,c=>by
  let⟨u,A,rfl,t,E⟩:=c;cases (show u=.int r from t);rw[yL E];rfl
theorem Fs{j:aw}:∀QM:List Int,bx j (QM.map .int) (QM.map af.int)
 |[]=>rfl
 |r::s=>⟨.int r,_,rfl,rfl,Fs s⟩
def JL(e:b.calm=X)(i:b.A.units+20<bK):g8 b (.builtin "sorted") vr:=by
 refine (PU e).imp λw j D ⟨I,v,g,d,p⟩=>?_;unfold vr at d;split at d
 ·rename_i f;let⟨QM,h,a⟩:=bG.mp d;split at a
  ·rename_i c;cases a;let⟨u,rfl,W,q,w,rfl,t,E,W⟩:=f7 g;cases Ea h;cases yL E;refine⟨q,QM,rfl,t,c.1,c.2,λx k aR T up=>?_⟩;rw[CK]at p;rw[zl (T.trans (vb QM).symm) up (N9 c.1)];exact b5.l p aR (Fs _)
  ·cases a
 ·cases d
def yx(a:b.A.units+20<bK):sA b ow:=z7
end
end L2
namespace L2
variable{g c L e:bP}{d:ay ai}{own k r:Nat}{I:List ai}{QX:List Nat}{o:Option (Nat×ai)}{w:List V}{v:ai}{QA y:a6}{m:ay Bool}{QY:fg}{QT:Type}{i a:Int}
@[simp] theorem Qn(v:V)(y:a6):aC v y=Z (.im v,y):=rfl
@[simp] theorem qg(y:a6):aF y=Z ([],y):=rfl
@[simp] theorem P0(y:a6):d6 y=Z (.bg,y):=rfl
@[simp] theorem P7(y:a6):lJ y=Z (Y,y):=rfl
@[simp] theorem P5(y:a6):dN y=Z (X,y):=rfl
@[simp] theorem Qd(v:V):(ai.im v).ei=X:=rfl
@[simp] theorem Qj(v:List V):(ai.cS v).ei=X:=rfl
@[simp] theorem Qb(v:List V):(ai.lst v).ei=aq:=rfl
@[simp] theorem Qo(v:List (List V×V)):(ai.aH v).ei=aq:=rfl
@[simp] theorem Qg(v:List (d_×V)):(ai.dn v).ei=aq:=rfl
@[simp] theorem wx(y:a6)(v:ai):ew y (.bZ v)=Z v:=rfl
@[simp] theorem PI(y:a6)(a:Nat):ew y (.aU a)=(y[a]?).getD Y:=rfl
@[simp] theorem xk(y:a6):gA y []=Z []:=rfl
@[simp] theorem xc(y:a6)(o:bJ)(M:List bJ):gA y (o::M)=(ew y o).bind λv=>(gA y M).map λI=>v::I:=rfl
@[simp] theorem zI(y:a6):e3 [] y=Z ([],y):=rfl
@[simp] theorem yJ(v:ai)(M:List bJ)(y:a6):e3 (.bZ v::M) y=(e3 M y).map λq=>(v::q.1,q.2):=rfl
@[simp] theorem P1(a:Nat)(M:List bJ)(y:a6):e3 (.aU a::M) y=(fh a y).bind λq=>(e3 M q.2).map λp=>(q.1::p.1,p.2):=rfl
@[simp] theorem Qm:hs []=Z []:=rfl
@[simp] theorem Qf(v:V)(I:List ai):hs (.im v::I)=(hs I).map λs=>v::s:=rfl
@[simp] theorem PY(e:Bool):k9 (.im<|.ax e)=Z e:=rfl
def nD(t : -(2^64)<i)(E:i<2^64):gN a i=X:=by
 have:bq.Int.intBits i<=64:=Be t E;have T:¬ (bq.Int.intBits i>sq):=ux.mpr this;unfold gN;rw[c0 T];simp
def O6(t : -(2^64)<a)(E:a<2^64):gN a i=X:=by
 have:bq.Int.intBits a<=64:=Be t E;have T:¬ (bq.Int.intBits a>sq):=ux.mpr this;unfold gN;rw[c0 T];simp
def AH{w:List QT}(c:w.length<=r):w.take r=w:=qM c
def PV(w:List QT)(n:Nat):fm w (Z (n:Int)) Y=w.drop n:=by
 unfold fm;rw[c4.FE,c4.AO];by_cases c:n<=w.length
 ·rw[n8 c,AH (by rw[gc];lia)]
 ·rw[Es ⋯,ur,rQ,mR ⋯]
def L8(w:List QT)(n:Nat):fm w Y (Z (n:Int))=w.take n:=by
 unfold fm;rw[c4.FE,c4.AO,kh,DQ];by_cases c:n<=w.length
 ·rw[n8 c]
 ·rw[Es ⋯,oO,AH ⋯]
def uz{w:List QT}{v:QT}(b:0<=a)(c:w[a.toNat]?=Z v):dj w a=Z v:=by
 unfold dj i_;have S:a.toNat<w.length:=(e9.mp c).1;rw[aE b,aE ⋯];exact c
def tH{w:List QT}{v:QT}(c:w.getLast?=Z v):dj w (-1)=Z v:=by
 rw[BE]at c;have S:w.length-1<w.length:=(e9.mp c).1;unfold dj i_;rw[aK ∅,aE ⋯];show w[(-1+(w.length:Int)).toNat]?=Z v;rw[show (-1+(w.length:Int)).toNat=w.length-1 by lia];exact c
def Nw(G:Nat->a6->Prop)(Qu:ai->a6->Prop):∀{w:List V}{y:a6},G 0 y->
  (∀(a:Nat) (f:V) (y:a6),w[a]?=Z f->G a y->∃QA aR Q4,QY (.im f) y=Z QA/\e QA=Z (aR,Q4)/\(((aR=.bg\/aR=.bW)/\G (a+1) Q4)\/∃v,aR=.et v/\Qu v Q4))->
  (∃QQ,d5 QY e w y=Z (.bg,QQ)/\G w.length QQ)\/∃v QQ,d5 QY e w y=Z (.et v,QQ)/\Qu v QQ:=by
 intro w;induction w generalizing G with
 |nil=>intro y b W;exact .inl ⟨y,rfl,b⟩
 |cons f s g=>
  intro y b c;let⟨QA,aR,@Q4,t,E,h⟩:=c 0 f y rfl b;rcases h with ⟨i,j⟩|⟨v,rfl,k⟩
  ·have:=g (λa=>G<|a+1) (y:=Q4) j λa H QQ l m=>c (a+1) H QQ ⇑l m;have d:d5 QY e (f::s) y=d5 QY e s Q4:=by
    rw[d5];dsimp only;rw[t];show (e QA).bind _=_;rw[E];rcases i with rfl|rfl<;>rfl
   rw[d];exact this
  ·refine .inr ⟨v,Q4,?_,k⟩;rw[d5];dsimp only;rw[t];show (e QA).bind _=_;rw[E];rfl
def pl(G:Nat->a6->Prop){w:List V}{y:a6}(b:G 0 y)(c:∀(a:Nat) (f:V) (y:a6),w[a]?=Z f->G a y->∃QA aR Q4,QY (.im f) y=Z QA/\e QA=Z (aR,Q4)/\(aR=.bg\/aR=.bW)/\G (a+1) Q4):
  ∃QQ,d5 QY e w y=Z (.bg,QQ)/\G w.length QQ:=by
 rcases Nw G (λ_ W=>False) b (λa f y d g=>by
  let⟨QA,aR,@Q4,t,E,h,i⟩:=c a f y d g;exact⟨QA,aR,Q4,t,E,.inl ⟨h,i⟩⟩) with c|⟨_,_,_,c⟩
 ·exact c
 ·exact c.elim
def o9(G:Nat->a6->Prop)(b:a6->Prop)(step:∀k y,G k y->∃A QA,m y=Z (A,QA)/\(A=X->∃aR Q4,e QA=Z (aR,Q4)/\(aR=.bg\/aR=.bW)/\∃a,a<k/\G a Q4)/\(A=aq->b QA)):
  ∀(r k:Nat) (y:a6),G k y->k<r->∃QQ,h2 m e r y=Z (.bg,QQ)/\b QQ:=by
 intro r;induction r with
 |zero=>intro k y W c;lia
 |succ r d=>
  intro k y f n;let⟨A,@QA,t,E,g⟩:=step k y f;rw[h2];dsimp only;rw[t];cases A with
  |false=>exact⟨QA,rfl,g rfl⟩
  |true=>
   let⟨aR,@Q4,h,hf,⟨@a,o,i⟩⟩:=E rfl;let⟨@QQ,j,l⟩:=d a Q4 i ⋯;refine⟨QQ,?_,l⟩;simp only[ll,gv,h];rcases hf with rfl|rfl<;>exact j
def ND(w:List QT):w.filter (λ_=>X)=w:=D7.mpr λ_ W=>rfl
def fH(d:L y=Z (.bg,QA)):bC L c y=c QA:=by unfold bC;rw[d];rfl
def yD(d:L y=Z (.et v,QA)):bC L c y=Z (.et v,QA):=by unfold bC;rw[d];rfl
def pn{L:js}{Q4:a6}{aR:mf}(d:L y=Z ((w,o),QA))(c:d5 QY e w QA=Z (aR,Q4)):f9 L QY e y=Z (aR,kD o Q4):=by
 unfold f9;rw[d];show (d5 QY e w QA).map _=_;rw[c];rfl
def G5{s:ai}(a:I.length=r)(d:L (I.map Z++List.replicate (k-r) Y)=Z (.et s,y)):d1 r k QX L I=Z (s,h4 QX I y 0):=by
 unfold d1;rw[aE a,d]
def l5{QW:List Nat}{Q:js}{a:a6}{I:List V}(t:Q y=Z ((w,o),QA))(E:gx own QY m d w [] (i9 QW QA)=Z (I,a)):cR own QW Q QY m d y=Z (.lst I,kD o<|h1 QW a QA):=by
 unfold cR;rw[t];show (gx own QY m d w []<|i9 QW QA).map _=_;rw[E];rfl
def i3{L:ay ai}(d:L y=Z (v,QA)):c8 L y=Z (.et v,QA):=by unfold c8;rw[d];rfl
def tw{a:Nat}{L:ay ai}(d:L y=Z (v,QA))(c:a<QA.length):bV a L y=Z (.bg,QA.set a<|Z v):=by unfold bV;rw[d];show (if a<QA.length then _ else _)=_;rw[aE c]
def El(d:m y=Z (X,QA)):df m g e y=g QA:=by unfold df;rw[d];rfl
def Bh(d:m y=Z (aq,QA)):df m g e y=e QA:=by unfold df;rw[d];rfl
def qD(y:a6){s:ai}{G:List ai}(a:I.length=r)(d:L (I.map Z++List.replicate (k-r) Y)=Z (.et s,y))(b:h4 QX I y 0=G):d1 r k QX L I=Z (s,G):=by
 rw[G5 a d,b]
theorem lC{QT:Type}{own:Nat}{QY:fg}{m:ay Bool}{d:ay ai}{aL:a6}(b:QT->V)(q:QT->Bool)(C:QT->V):∀(w:List QT) (a:List V),(∀f∈w,∃QA Q4,QY (.im<|b f) (List.replicate own Y++aL)=Z QA/\m QA=Z (q f,Q4)/\(q f=aq->Q4.drop own=aL)/\(q f=X->∃Rr,d Q4=Z (.im<|C f,Rr)/\Rr.drop own=aL))->
  a.length+w.length<=100000->gx own QY m d (w.map b) a aL=Z (a++(w.filter q).map C,aL)
 |[],a,_,_=>by simp[gx]
 |f::s,a,c,h=>by
  let⟨QA,@Q4,t,E,i,j⟩:=c f (.head _);rw[ey]at h;rw[cH,gx,t];show (m QA).bind _=_;rw[E];show (if q f=X then _ else _)=_;cases e:q f with
  |false=>
   rw[aK dv];show gx own QY m d (s.map b) a (Q4.drop own)=_;rw[i e,lC b q C s a (λH g=>c H<|.tail _ g) ⋯,zt,e];rfl
  |true=>
   let⟨@Rr,k,l⟩:=j e;rw[aE rfl];show (d Q4).bind _=_;rw[k];show (if a.length<100000 then gx own QY m d (s.map b) (a++[C f]) (Rr.drop own) else Y)=_;rw[aE ⋯,l,lC b q C s (a++[C f]) (λH g=>c H<|.tail _ g) (by rw[dx,fk];lia),zt,e];simp
def iX{aL:a6}(a:QT->V)(C:QT->V)(w:List QT)(c:∀f∈w,∃QA Q4 Rr,QY (.im<|a f) (List.replicate own Y++aL)=Z QA/\m QA=Z (X,Q4)/\d Q4=Z (.im<|C f,Rr)/\Rr.drop own=aL)(i:w.length<=100000):gx own QY m d (w.map a) [] aL=Z (w.map C,aL):=by
 have:=lC (own:=own) (QY:=QY) (m:=m) (d:=d) (aL:=aL) a (λ_=>X) C w [] (λf b=>by
  let⟨QA,Q4,@Rr,t,E,e,g⟩:=c f b;exact⟨QA,Q4,t,E,(λh=>by cases h),(λ_=>⟨Rr,e,g⟩)⟩) (by rw[jg];lia)
 rw[ND]at this;exact this
theorem zE{QT Rk:Type}(a:QT->V)(b:Rk->V):∀(w:List QT) (QJ:List Rk),gb (w.map a) (QJ.map b)=(w.zip QJ).map λq=>.tup [a q.1,b q.2]
 |[],QJ=>by simp[gb]
 |f::w,[]=>by simp[gb]
 |f::w,H::QJ=>by simp[gb,zE a b w QJ]
def sr{Rk:Type}(C:QT->Rk)(w:List QT)(R S:Option Int):fm (w.map C) R S=(fm w R S).map C:=by
 unfold fm;rw[bj,iU,iP]
end L2
namespace G
open L2
abbrev aD(a:Int):ai:=.im (.int a)
end G
namespace L2
open Spec PyProof.Rows
section
variable{b:aJ}
def qU:V->Option d_
 |.int a=>Z (.inl a)
 |.str f=>Z (.inr f)
 |_=>Y
@[simp] theorem P8(a:Int):qU (.int a)=Z (.inl a):=rfl
@[simp] theorem PZ(f:aB):qU (.str f)=Z (.inr f):=rfl
def Ar:d_->V
 |.inl a=>.int a
 |.inr f=>.str f
@[simp] theorem Qa(a:Int):Ar (.inl a)=.int a:=rfl
@[simp] theorem P2(f:aB):Ar (.inr f)=.str f:=rfl
def HU{j:aw}{v:V}{u:af}{n:d_}(c:cq j v u)(d:qU v=Z n):u=b0 n:=by
 cases v with
 |int a=>cases d;exact c
 |str f=>cases d;exact c
 |_=>cases d
def fW{QP:Type}[DecidableEq QP](QG:List (QP×V))(n:QP)(v:V):List (QP×V):=(
 if (QG.any λa=>decide (a.1=n))=X then QG.map (λa=>if a.1=n then (a.1,v) else a) else QG++[(n,v)])
variable{QP:Type}
def ej.any[DecidableEq QP]{j:aw}{n:QP}{x:List (QP×V)}{k:List (QP×af)}(c:ej j x k):(x.any λa=>decide (a.1=n))=(k.any λa=>decide (a.1=n)):=by
 unfold ej at c;induction c with
 |nil=>rfl
 |cons s _ b=>rw[mc,mc,b,s.1]
def ej.upd[DecidableEq QP]{j:aw}{n:QP}{v:V}{u:af}(l:cq j v u){x:List (QP×V)}{k:List (QP×af)}(c:ej j x k):ej j (x.map λa=>if a.1=n then (a.1,v) else a) (k.map λa=>if a.1=n then (a.1,u) else a):=by
 unfold ej at c;induction c with
 |nil=>exact .nil
 |@cons q p _ _ s _ e=>
  rw[cH,cH];refine .cons ?_ e;by_cases d:q.1=n
  ·have b:p.1=n:=s.1.symm.trans d;rw[aE d,aE b];exact⟨s.1,l⟩
  ·have b:¬ p.1=n:=λf=>d (s.1.trans f);rw[aK d,aK b];exact s
def L5{QT Rk:Type}{P:QT->Rk->Prop}{x:List QT}{k:List Rk}{g:QT}{e:Rk}(c:d0 P x k)(f:P g e):d0 P (x++[g]) (k++[e]):=by
 induction c with
 |nil=>exact .cons f .nil
 |cons s _ a=>exact .cons s a
def ej.put[DecidableEq QP]{j:aw}{n:QP}{v:V}{u:af}(l:cq j v u){x:List (QP×V)}{k:List (QP×af)}(c:ej j x k):ej j (fW x n v) (gR k n u):=by
 unfold fW gR;rw[c.any];split
 ·exact c.upd l
 ·exact L5 c ⟨rfl,l⟩
@[simp] def Qc(a b:ay ai):ay ai:=λy=>(a y).bind λq=>(b q.2).bind λp=>match q.1,p.1 with
 |.im n,.im v=>(qU n).map λc=>(.dn [(c,v)],p.2)
 |_,_=>Y
@[simp] def jy(m n v:ai):Option ai:=match m,n,v with
 |.lst w,.im<|.int a,.im v=>(i_ w.length a).map λi=>.lst (w.set i v)
 |.dn QG,.im n,.im v=>(qU n).bind λb=>if QG.length<100000 then Z (.dn<|fW QG b v) else Y
 |.aH QG,.im<|.tup n,.im v=>if V.keys 7 n=X/\QG.length<100000 then Z (.aH<|fW QG n v) else Y
 |_,_,_=>Y
def xm(C:b.A.units+20<bK):sA b jy:=by
 intro Q h B j o a u F H J D G k i l I;let⟨m,n,v,L,Qu,@QI,q,gM,r,ao,d,p⟩:=I;unfold jy at d;split at d
 ·exact z7 Q h B j o a u F H J D G k i l ⟨_,_,_,L,Qu,QI,q,gM,r,ao,d,p⟩
 ·let⟨@P,M,s⟩:=bG.mp d;split at s
  ·rename_i c;cases s;let⟨g,@QJ,rfl,t,E,rfl⟩:=q;let@⟨x,rfl⟩:=r;have m:gq j g:=⟨_,t,(λ_ d=>by cases d),(λ_ W d=>by cases d)⟩;cases k;have N:=HU gM.1 M;subst N;refine CF C G (mB.k t (by rw[<-E.length];exact w4 c)) i l λQp y=>⟨_,y,p _ [g] ?_ (bp.chg (.head _) m (eY _ _) λf z=>by simpa using z)⟩;exact⟨g,_,rfl,fa,(ej.put x E).mono<|cq.lK m,rfl⟩
  ·cases s
 ·split at d
  ·rename_i c;cases d;let⟨g,@QJ,rfl,t,E,rfl⟩:=q;let@⟨x,rfl⟩:=r;have m:gq j g:=⟨_,t,(λ_ d=>by cases d),(λ_ W d=>by cases d)⟩;cases k;let⟨e,@w,rfl,Q0,Q6⟩:=gM.1;refine CF C G (mB.t t ⟨c.1,e,w,rfl,Q0,Q6⟩ (by rw[<-E.length];exact w4 c.2)) i l λQp y=>⟨_,y,p _ [g] ?_ (bp.chg (.head _) m (eY _ _) λf z=>by simpa using z)⟩;exact⟨g,_,rfl,fa,(ej.put x E).mono<|cq.lK m,rfl⟩
  ·cases d
 ·cases d
end
section
variable{b:aJ}
def C4:bJ->ai->Option (Nat×ai)
 |.aU a,v=>Z (a,v)
 |.bZ _,_=>Y
@[simp] theorem P4(a:Nat)(v:ai):C4 (.aU a) v=Z (a,v):=rfl
@[simp] theorem Qh(m v:ai):C4 (.bZ m) v=Y:=rfl
def Nd{n:Nat}{a:aB}{i r:Pos}{QY Rl Rw:bk}{Rv:List bk}{QS:gn}{QK:Pos}{own:List aB}{QW:List Nat}{eT:cW}{L:jc->fV}{I:jc->dZ}{Rq:jc->b2}(v:b.N.Nodup)(w:b.N[n]?=Z a)(x:jh b.env.scope a)(z:b.calm=X)(QI:iG b QS own QW)(S:jM b QY Rl eT)(D:∀l,iD (b.fx (fF b own QW) QS l) QY<|L l)(bf:∀l,ra (b.fx (fF b own QW) QS l) Rv<|I l)(E:∀l,bN (b.fx (fF b own QW) QS l) Rw<|Rq l)(Qx:∀f,k8 Rl b.env f=pure f:=by intro W;rfl)(F:mE (.ListComp Rw [⟨QY,Rl,Rv,0⟩] QS QK) (Z<|.Name a i) r.line b.env=pure X:=by rfl)(H:b.fn a=X\/b.env.scope.names.lookup a=Z .local:=by first|exact .inl rfl|exact .inr rfl|assumption):
  hz b (.Assign [.Name a i] (.ListComp Rw [⟨QY,Rl,Rv,0⟩] QS QK) r) (vH (uq own QW eT L I Rq)<|vG n):=by
 intro Q h B j J G c;rw[exec_Assign_Name_used _ _ _ _ F];refine av (sU<|av ?_);show wpAny _ b.A (do let _ <-xj (.ListComp Rw [⟨QY,Rl,Rv,0⟩] QS QK) QS b.env _ (rv []) aq (b8 Rl b.env) (Z<|hC (.Name a i) b.env)) _ _ h;refine av (gQ (CL (use:=Z (hC (.Name a i) b.env)) (f2:=λ_ Qp=>om b Q J .next Qp) z QI S D bf E Qx G c λy aL be M k P R C s t U q p=>?_) (λ_ Qp al=>aS<|aS al) λ_ W d=>d);show wpAny _ b.A (hC (.Name a i) b.env<|.ref y) _ _ M;refine Bg (Am P v w x (u:=.ref y) rfl (λam an ap=>?_) H);let⟨@g,as,m⟩:=ap;have a1:aL≠g:=by
  rcases m with rfl|m
  ·exact fP s
  ·exact fP (t _ _ m)
 exact⟨k,R.sameBut as a1,λT cn=>⟨_,_,an.turned (it:=aL) (QZ:=am.toks) (λe o a2 d=>(cn.2 e a2).trans d) C (fP s) (.inr U) t q,p⟩⟩
def ph{QX:List Nat}{a:Nat}{c:aB}{i e:Pos}{QY Rl Rw:bk}{Rv:List bk}{QS:gn}{QK:Pos}{own:List aB}{QW:List Nat}{Q:js}{H:fg}{cZ:ay Bool}{Rz:ay ai}(g:b.N.Nodup)(h:b.N[a]?=Z c)(k:jh b.env.scope c)(l:b.calm=X)(QI:iG b QS own QW)(ao:QW.Nodup)(S:lj b QY Rl Q)(m:∀d,gS (b.fx (fF b own QW) QS d) (oR own.length QW.length) QY H)(bf:∀d,sO (b.fx (fF b own QW) QS d) Rv cZ)(n:∀d,cm (b.fx (fF b own QW) QS d) Rw Rz)(o:a∉QX)(Qx:∀f,k8 Rl b.env f=pure f:=by intro W;rfl)(q:mE (.ListComp Rw [⟨QY,Rl,Rv,0⟩] QS QK) (Z<|.Name c i) e.line b.env=pure X:=by rfl)(r:b.fn c=X\/b.env.scope.names.lookup c=Z .local:=by first|exact .inl rfl|exact .inr rfl|assumption):
  iy b QX (.Assign [.Name c i] (.ListComp Rw [⟨QY,Rl,Rv,0⟩] QS QK) e) (bV a<|cR own.length QW Q H cZ Rz):=by
 refine kR (Nd g h k l QI S m bf n Qx q r) λQt B j v=>?_;let⟨y,P,aR,@QQ,N,w,x,p⟩:=v;let⟨@⟨s,QA⟩,t,E⟩:=bG.mp x;split at E
 ·rename_i A;cases E;refine DW ao ⟨y,P,s,_,N,w,t,λu QB z Qu C QU D=>?_⟩;let⟨QV,@bS,F,T⟩:=C.put (a:=a) QU A;exact p _ QB QV (dz.set o) F (D.less T)
 ·cases E
def Cb:ai->ai
 |.lst f=>.im (.aR f)
 |.aH []=>.im .fd
 |v=>v
@[simp] theorem Qe(f:List V):Cb (.lst f)=.im (.aR f):=rfl
@[simp] theorem Qi(v:V):Cb (.im v)=.im v:=rfl
end
end L2
namespace c4
open Spec PyProof.Rows
end c4
namespace L2
open Spec PyProof.Rows
section
variable{b:aJ}
theorem bx.rev{j:aw}:∀{I:List V}{w:List af},bx j I w->bx j I.reverse w.reverse
 |[],w,c=>by cases (show w=[] from c);rfl
 |v::I,w,c=>by
  let⟨u,@s,rfl,t,E⟩:=c;rw[v3,v3];exact E.rev.app ⟨u,[],rfl,t,rfl⟩
end
variable{cZ Rj Ro:ay bJ}{S C:fS}{D:ae->ah->Prop}{e:Bool}{Rb:ai}{J u:ae}{H f:af}{h:ah}{B:aW}{Q:List (ak×a3)}{v:V}{j:aw}
theorem Ei{c:aV}:∀(r:Nat) {f H:V}{u:ae},V.bo r f=X->V.bo r H=X->dr c f u->dr c H u->f=H
 |r,.aT,H,u,_,aX,h,b=>by
  cases (show u=.none from h);cases H with
  |aT=>rfl
  |ax e=>cases b
  |int i=>let⟨@J,d⟩:=b;cases d
  |str j=>let⟨@J,d⟩:=b;cases d
  |tup I=>let⟨W,W,W,@W,d,W⟩:=b;cases d
  |fn g=>cases r<;>cases aX
  |aR g=>cases r<;>cases aX
  |fd=>cases r<;>cases aX
 |r,.ax e,H,u,_,aX,h,b=>by
  cases (show u=.bool e from h);cases H with
  |aT=>cases b
  |ax m=>cases b;rfl
  |int i=>let⟨@J,d⟩:=b;cases d
  |str j=>let⟨@J,d⟩:=b;cases d
  |tup I=>let⟨W,W,W,@W,d,W⟩:=b;cases d
  |fn g=>cases r<;>cases aX
  |aR g=>cases r<;>cases aX
  |fd=>cases r<;>cases aX
 |r,.int a,H,u,_,aX,h,b=>by
  let⟨@A,rfl⟩:=h;cases H with
  |aT=>cases b
  |ax m=>cases b
  |int i=>let⟨@J,d⟩:=b;injection d with d;rw[d]
  |str j=>let⟨@J,d⟩:=b;cases d
  |tup I=>let⟨W,W,W,@W,d,W⟩:=b;cases d
  |fn g=>cases r<;>cases aX
  |aR g=>cases r<;>cases aX
  |fd=>cases r<;>cases aX
 |r,.str a,H,u,_,aX,h,b=>by
  let⟨@A,rfl⟩:=h;cases H with
  |aT=>cases b
  |ax m=>cases b
  |int i=>let⟨@J,d⟩:=b;cases d
  |str j=>let⟨@J,d⟩:=b;injection d with d;rw[d]
  |tup I=>let⟨W,W,W,@W,d,W⟩:=b;cases d
  |fn g=>cases r<;>cases aX
  |aR g=>cases r<;>cases aX
  |fd=>cases r<;>cases aX
 |r+1,.tup I,H,u,w,aX,h,b=>by
  let⟨g,o,QL,@k,rfl,t,E,x,y⟩:=h;cases H with
  |aT=>cases b
  |ax m=>cases b
  |int i=>let⟨@J,d⟩:=b;cases d
  |str j=>let⟨@J,d⟩:=b;cases d
  |fn g=>cases aX
  |aR g=>cases aX
  |fd=>cases aX
  |tup Qs=>
   let⟨F,R,G,@L,d,q,M,l,z⟩:=b;cases d;rw[t]at q;cases q;rw[x]at l;injection l with l _;subst l;have all:∀(I Qs:List V) (U:List ae),V.ck r I=X->V.ck r Qs=X->du c I U->du c Qs U->I=Qs:=by
    intro I;induction I with
    |nil=>
     intro Qs U W W g e;cases Qs with
     |nil=>rfl
     |cons d Qs=>let⟨W,@W,p,W⟩:=e;rw[show U=[] from g]at p;cases p
    |cons v I B=>
     intro Qs U Q0 Q6 g e;let⟨u,@s,rfl,C,D⟩:=g;cases Qs with
     |nil=>cases (show u::s=[] from e)
     |cons d Qs=>
      let⟨N,@Ra,p,dV,dg⟩:=e;cases p;rw[V.ck,cI]at Q0 Q6;rw[Ei r Q0.1 Q6.1 C dV,B Qs s Q0.2 Q6.2 D dg]
   rw[all I Qs _ w aX y z]
 |0,.tup _,_,_,n,_,_,_=>by cases n
 |r,.fn _,_,_,n,_,_,_=>by cases r<;>cases n
 |r,.aR _,_,_,n,_,_,_=>by cases r<;>cases n
 |r,.fd,_,_,n,_,_,_=>by cases r<;>cases n
open Classical in
def nv(c:aV)(v:V)(u:ae):Bool:=(if z:∃f,V.bo 8 f=X/\dr c f u then cf z.choose v else aq)
def pz{c:aV}{f:V}(n:V.bo 8 f=X)(a:dr c f u):nv c v u=cf f v:=by
 unfold nv;have b:∃f,V.bo 8 f=X/\dr c f u:=⟨f,n,a⟩;rw[dif_pos b,Ei 8 b.choose_spec.1 n b.choose_spec.2 a]
theorem q6{c:aV}{v:V}:∀{I:List V}{U:List ae},V.ck 8 I=X->du c I U->U.any (nv c v)=I.any λf=>cf f v
 |[],U,_,d=>by rw[show U=[] from d];rfl
 |f::I,U,n,d=>by
  let⟨u,@s,rfl,t,E⟩:=d;rw[V.ck,cI]at n;rw[mc,mc,pz n.1 t,q6 n.2 E]
theorem ru{c:aV}:∀{I:List V}{U:List ae}{u:ae},V.ck 8 I=X->du c I U->u∈U->∃f,V.bo 8 f=X/\dr c f u
 |[],U,u,_,d,k=>by rw[show U=[] from d]at k;cases k
 |f::I,U,u,n,d,k=>by
  let⟨J,@s,rfl,t,E⟩:=d;rw[V.ck,cI]at n;rcases cu.mp k with rfl|k
  ·exact⟨f,n.1,t⟩
  ·exact ru n.2 E k
section
variable{b:aJ}
def eU(v:V):ai->Option Bool
 |.im (.tup I)=>if (V.bo 8 v&&V.ck 8 I)=X then Z (I.any λf=>cf f v) else Y
 |.lst I=>if (V.bo 8 v&&V.ck 8 I)=X then Z (I.any λf=>cf f v) else Y
 |.aH QG=>match v with
  |.tup n=>if V.keys 7 n=X then Z (dC QG n).isSome else Y
  |_=>Y
 |.dn QG=>match v with
  |.int a=>Z (dC QG<|.inl a).isSome
  |.str f=>Z (dC QG<|.inr f).isSome
  |_=>Y
 |_=>Y
@[simp] theorem JJ(v:V)(I:List V):eU v (.im<|.tup I)=if (V.bo 8 v&&V.ck 8 I)=X then Z (I.any λf=>cf f v) else Y:=rfl
@[simp] theorem LD(v:V)(I:List V):eU v (.lst I)=if (V.bo 8 v&&V.ck 8 I)=X then Z (I.any λf=>cf f v) else Y:=rfl
@[simp] theorem EK(n:List V)(QG:List (List V×V)):eU (.tup n) (.aH QG)=if V.keys 7 n=X then Z (dC QG n).isSome else Y:=rfl
@[simp] def ha:fS:=λg e=>match g with
 |.im v=>(eU v e).map λs=>.im (.ax s)
 |_=>Y
@[simp] def fE:fS:=λg e=>match g with
 |.im v=>(eU v e).map λs=>.im (.ax<|!s)
 |_=>Y
def oX{QP:Type}[DecidableEq QP]{j:aw}{n:QP}{QG:List (QP×V)}{i:List (QP×af)}(c:ej j QG i):(hh i n).isSome=(dC QG n).isSome:=by
 cases d:dC QG n with
 |none=>rw[(oi c).2 d];rfl
 |some v=>let⟨@u,t,W⟩:=(oi c).1 v d;rw[t];rfl
def PJ(C:b.A.units+20<bK)(G:aA b Q B j h)(m:b7 f u)(o:b7 H J)(r:cq j v f)(s:eO j Rb H)(d:eU v Rb=Z e)(p:∀Qp,aA b Q B j Qp->D (.bool e) Qp):wpAny (aO b.prog b.w) b.A (dY .In u J) D b.cE h:=by
 unfold eU at d;split at d
 ·rename_i I;split at d
  ·rename_i c;cases d;rw[cI]at c;let⟨g,@w,rfl,t,E⟩:=s.i;cases o;let⟨@QD,L,q,W⟩:=G.tuple (cb.of t);have x:=E.eJ G.a0 L;refine SeqAt.in_tupleAt (nv h.heap v) (show h.heap.IsTuple g QD.toArray from q) (λl F=>?_) ?_
   ·let⟨@M,y,z⟩:=ru c.2 x ⇑F;rw[pz y z];exact iq 8 y c.1 (by show b.A.units+1+8+1<bK;lia) z (r.eJ G.a0 m)
   ·rw[tj,q6 c.2 x];exact p h G
  ·cases d
 ·rename_i I;split at d
  ·rename_i c;cases d;rw[cI]at c;let⟨W,g,@w,rfl,t,E,W⟩:=s;cases o;let⟨@QD,q,x,W⟩:=nO G t E;refine SeqAt.in_listAt (nv h.heap v) q (λl F=>?_) ?_
   ·let⟨@M,y,z⟩:=ru c.2 x ⇑F;rw[pz y z];exact iq 8 y c.1 (by show b.A.units+1+8+1<bK;lia) z (r.eJ G.a0 m)
   ·rw[tj,q6 c.2 x];exact p h G
  ·cases d
 ·rename_i QG;split at d
  ·rename_i n;split at d
   ·rename_i N;cases d;let⟨W,g,@i,rfl,t,E,W⟩:=s;cases o;let⟨e,@QJ,rfl,P,R⟩:=r;rw[<-oX E]at p;exact x4 C G (gg.t t ⟨N,e,QJ,rfl,P,R⟩) m p
   ·cases d
  ·cases d
 ·rename_i QG;split at d
  ·rename_i a;cases d;let⟨W,g,@i,rfl,t,E,W⟩:=s;cases o;rw[<-oX E]at p;cases (show f=b0 (.inl a) from r);exact x4 C G (gg.k t) m p
  ·rename_i a;cases d;let⟨W,g,@i,rfl,t,E,W⟩:=s;cases o;rw[<-oX E]at p;cases (show f=b0 (.inr a) from r);exact x4 C G (gg.k t) m p
  ·cases d
 ·cases d
def lS(c:b.A.units+20<bK):eS b (dY .In) ha:=by
 intro Q h B j f H u J D G g k l;let⟨Q_,Rb,@v,m,n,d,p⟩:=l;unfold ha at d;split at d
 ·let⟨@e,o,q⟩:=cw.mp d;cases q;exact PJ c G g k m.i n o λQp r=>⟨.ax e,j,r,rfl,b5.i p rfl⟩
 ·cases d
def Ox(C:b.A.units+20<bK)(G:aA b Q B j h)(m:b7 f u)(o:b7 H J)(r:cq j v f)(s:eO j Rb H)(d:eU v Rb=Z e)(p:∀Qp,aA b Q B j Qp->D (.bool<|!e) Qp):wpAny (aO b.prog b.w) b.A (dY .NotIn u J) D b.cE h:=by
 unfold eU at d;split at d
 ·rename_i I;split at d
  ·rename_i c;cases d;rw[cI]at c;let⟨g,@w,rfl,t,E⟩:=s.i;cases o;let⟨@QD,L,q,W⟩:=G.tuple (cb.of t);have x:=E.eJ G.a0 L;refine SeqAt.notIn_tupleAt (nv h.heap v) (show h.heap.IsTuple g QD.toArray from q) (λl F=>?_) ?_
   ·let⟨@M,y,z⟩:=ru c.2 x ⇑F;rw[pz y z];exact iq 8 y c.1 (by show b.A.units+1+8+1<bK;lia) z (r.eJ G.a0 m)
   ·rw[tj,q6 c.2 x];exact p h G
  ·cases d
 ·rename_i I;split at d
  ·rename_i c;cases d;rw[cI]at c;let⟨W,g,@w,rfl,t,E,W⟩:=s;cases o;let⟨@QD,q,x,W⟩:=nO G t E;refine SeqAt.notIn_listAt (nv h.heap v) q (λl F=>?_) ?_
   ·let⟨@M,y,z⟩:=ru c.2 x ⇑F;rw[pz y z];exact iq 8 y c.1 (by show b.A.units+1+8+1<bK;lia) z (r.eJ G.a0 m)
   ·rw[tj,q6 c.2 x];exact p h G
  ·cases d
 ·rename_i QG;split at d
  ·rename_i n;split at d
   ·rename_i N;cases d;let⟨W,g,@i,rfl,t,E,W⟩:=s;cases o;let⟨e,@QJ,rfl,P,R⟩:=r;rw[<-oX E]at p;exact vZ C G (gg.t t ⟨N,e,QJ,rfl,P,R⟩) m p
   ·cases d
  ·cases d
 ·rename_i QG;split at d
  ·rename_i a;cases d;let⟨W,g,@i,rfl,t,E,W⟩:=s;cases o;rw[<-oX E]at p;cases (show f=b0 (.inl a) from r);exact vZ C G (gg.k t) m p
  ·rename_i a;cases d;let⟨W,g,@i,rfl,t,E,W⟩:=s;cases o;rw[<-oX E]at p;cases (show f=b0 (.inr a) from r);exact vZ C G (gg.k t) m p
  ·cases d
 ·cases d
def jH(c:b.A.units+20<bK):eS b (dY .NotIn) fE:=by
 intro Q h B j f H u J D G g k l;let⟨Q_,Rb,@v,m,n,d,p⟩:=l;unfold fE at d;split at d
 ·let⟨@e,o,q⟩:=cw.mp d;cases q;exact Ox c G g k m.i n o λQp r=>⟨.ax<|!e,j,r,rfl,b5.i p rfl⟩
 ·cases d
@[simp] def lg(C S:fS)(Ro Rj cZ:ay bJ):ay ai:=λy=>(Ro y).bind λq=>(Rj q.2).bind λp=>(ew p.2 q.1).bind λQ_=>(ew p.2 p.1).bind λRb=>(C Q_ Rb).bind λv=>(k9 v).bind λn=>
 if n=X then (cZ p.2).bind λs=>(ew s.2 p.1).bind λa=>(ew s.2 s.1).bind λb=>(S a b).bind λc=>(k9 c).map λe=>(.im<|.ax e,s.2) else Z (.im<|.ax aq,p.2)
def OI{D:cz}(c:mh (lg C S Ro Rj cZ) B j D):
  AQ (λf H j D=>∃Q_ Rb v,eO j Q_ f/\eO j Rb H/\C Q_ Rb=Z v/\b5 j v D) (λf H j D=>∃Q_ Rb v,eO j Q_ f/\eO j Rb H/\S Q_ Rb=Z v/\b5 j v D) (ma Ro) (ma Rj) (ma cZ) B j D:=by
 let⟨y,P,s,@QQ,N,ao,a,p⟩:=c;let⟨@⟨Q5,QA⟩,t,a⟩:=bG.mp a;let⟨@⟨Rd,Q4⟩,E,a⟩:=bG.mp a;let⟨@Q_,M,a⟩:=bG.mp a;let⟨@Rb,O,a⟩:=bG.mp a;let⟨@v,Q,a⟩:=bG.mp a;let⟨@n,R,i⟩:=bG.mp a;have T:=q7 R;subst T;refine⟨y,P,Q5,QA,N,ao,t,λf QB z al am F w=>⟨QA,z,Rd,Q4,am,(dk.mp w.ao).1,E,λH QN QV bS k G m=>?_⟩⟩;have an:hK QN B Q5 f al:=F.mono m.tup λg b o d=>m.keep g o d λc=>(dk.mp w.ao).2.2 g c g b rfl;refine⟨Q_,Rb,_,an.read k M,G.read k O,Q,λu I ap h QU db ds=>?_⟩;let@⟨rfl,rfl⟩:=(show u=.ax n/\ap=[] from QU);refine⟨n,rfl,?_⟩;have J:=w.trans m F.chg;rw[bA]at J;have q:=J.new h gY (λg b=>nomatch b) k.chg;have L:bt I Q4 B QV:=k.mono h.tupS λg W o d=>h g o d;cases n with
 |false=>
  rw[aK dv]at i ⊢;cases i;exact p _ I QV [] L ⟨rfl,rfl⟩ q
 |true=>
  rw[aE rfl]at i ⊢;let⟨@⟨U,Rr⟩,as,Q0⟩:=bG.mp i;let⟨@a1,a2,Q6⟩:=bG.mp Q0;let⟨@bd,be,bi⟩:=bG.mp Q6;let⟨@dL,bm,bn⟩:=bG.mp bi;let⟨@e,bs,bv⟩:=cw.mp bn;cases bv;have ca:=q7 bs;subst ca;rw[cC]at q;refine⟨Q4,QV,U,Rr,L,q.ao,as,λl cd ce eq r ch x=>?_⟩;have ci:=dk.mp m.ao;have cl:hK cd B Rd H bS:=(G.mono h.tupS λg W o d=>h g o d).mono x.tup λg b o d=>x.keep g o d λc=>ci.2.2 g c g b rfl;refine⟨a1,bd,_,cl.read r a2,ch.read r be,bm,λu co cr A cs ev ex=>?_⟩;let@⟨rfl,rfl⟩:=(show u=.ax e/\cr=[] from cs);exact p _ co ce [] (r.mono A.tupS λg W o d=>A g o d) ⟨rfl,rfl⟩ ((q.seq x).new A gY (λg b=>nomatch b) r.chg)
def E7{Q8 a:jR}{g e m:bk}{QK:Pos}(c:eS b (dY Q8) C)(d:eS b (dY a) S)(f:dE b g Ro)(i:dE b e Rj)(k:dE b m cZ)(l:lastMarks [Q8,a] [e,m]=aq:=by with_unfolding_all rfl):hW b (.Compare g [Q8,a] [e,m] QK) (bu<|lg C S Ro Rj cZ):=by
 refine tg (OX c d f i k l) λB j D o=>?_;let⟨y,P,n,@QQ,N,ao,r,p⟩:=o;refine OI ⟨y,P,.im<|.ax n,QQ,N,ao,?_,λu F Q3 Qu s QU h=>⟨n,QU.1,p F Q3 s (by rw[QU.2,cC]at h;exact h)⟩⟩;let⟨@q,t,E⟩:=bG.mp r;let⟨@x,v,w⟩:=cw.mp E;cases w;rw[t,<-q7 v]
end
mutual
def bF:V->V->Bool
 |.int a,.int i=>decide (a<i)
 |.tup g,.tup e=>fO g e
 |_,_=>aq
def fO:List V->List V->Bool
 |[],[]=>aq
 |[],_::_=>X
 |_::_,[]=>aq
 |g::s,e::A=>if V.beq g e=X then fO s A else bF g e
end
mutual
def eM:Nat->V->V->Bool
 |_,.int _,.int _=>X
 |r+1,.tup g,.tup e=>fl r g e
 |_,_,_=>aq
def fl:Nat->List V->List V->Bool
 |_,[],[]=>X
 |r,g::s,e::A=>eM r g e&&fl r s A
 |r,[],e::A=>V.ck r (e::A)
 |r,g::s,[]=>V.ck r (g::s)
end
mutual
theorem o5:∀{r:Nat}{g e:V},eM r g e=X->V.bo r g=X/\V.bo r e=X/\cf g e=V.beq g e
 |r,.int a,.int i,_=>by
  refine⟨by cases r<;>rfl,by cases r<;>rfl,?_⟩;rw[cf,V.beq];by_cases c:a=i<;>simp[c]
 |r+1,.tup g,.tup e,c=>by
  rw[eM]at c;let@⟨t,E,b⟩:=Cr c;exact⟨t,E,by rw[cf,V.beq];exact b⟩
theorem Cr:∀{r:Nat}{g e:List V},fl r g e=X->V.ck r g=X/\V.ck r e=X/\dW g e=V.kj g e
 |r,[],[],_=>⟨by cases r<;>rfl,by cases r<;>rfl,rfl⟩
 |r,[],e::A,c=>⟨by cases r<;>rfl,c,rfl⟩
 |r,g::s,[],c=>⟨c,by cases r<;>rfl,rfl⟩
 |r,g::s,e::A,c=>by
  rw[fl,cI]at c;let@⟨t,E,a⟩:=o5 c.1;let@⟨b,d,f⟩:=Cr c.2;exact⟨by rw[V.ck,t,b];rfl,by rw[V.ck,E,d];rfl,by rw[dW,V.kj,a,f]⟩
end
def ny{g e:V}(c:¬ g=e):V.beq g e=aq:=by
 cases d:V.beq g e with
 |false=>rfl
 |true=>exact absurd ((V.beq_iff g e).mp d) c
mutual
theorem qo:∀g:V,bF g g=aq
 |.int a=>by simp[bF]
 |.tup g=>by rw[bF];exact zc g
 |.aT=>rfl
 |.ax _=>rfl
 |.str _=>rfl
 |.fn _=>rfl
 |.aR _=>rfl
 |.fd=>rfl
theorem zc:∀g:List V,fO g g=aq
 |[]=>rfl
 |g::s=>by rw[fO,aE<|(V.beq_iff g g).mpr rfl];exact zc s
end
mutual
theorem nK:∀{r:Nat}{g e:V},eM r g e=X->g≠e->bF g e=!(bF e g)
 |r,.int a,.int i,_,c=>by
  have:a≠i:=λd=>c (by rw[d]);rw[bF,bF];rcases Int.lt_or_gt_of_ne this with L|L
  ·simp[L];lia
  ·simp[L];lia
 |r+1,.tup g,.tup e,c,d=>by
  rw[eM]at c;rw[bF,bF];exact y4 c λb=>d (by rw[b])
theorem y4:∀{r:Nat}{g e:List V},fl r g e=X->g≠e->fO g e=!(fO e g)
 |r,[],[],_,c=>absurd rfl c
 |r,[],e::A,_,_=>rfl
 |r,g::s,[],_,_=>rfl
 |r,g::s,e::A,c,d=>by
  rw[fl,cI]at c;rw[fO,fO];by_cases a:g=e
  ·subst a;rw[aE ((V.beq_iff g g).mpr rfl),aE<|(V.beq_iff g g).mpr rfl];exact y4 c.2 λl=>d (by rw[l])
  ·rw[ny a,ny<|λl=>a l.symm,aK dv,aK dv];exact nK c.1 a
end
mutual
theorem tV:∀{r:Nat}{g e m:V},eM r g e=X->eM r e m=X->bF g e=X->bF e m=X->bF g m=X
 |r,.int a,.int i,.int n,_,_,t,E=>by
  rw[bF]at t E ⊢;have:=hY t;have:=hY E;exact dd (by omega)
 |r+1,.tup g,.tup e,.tup m,aZ,bh,t,E=>by
  rw[eM]at aZ bh;rw[bF]at t E ⊢;exact A_ aZ bh t E
theorem A_:∀{r:Nat}{g e m:List V},fl r g e=X->fl r e m=X->fO g e=X->fO e m=X->fO g m=X
 |r,[],_,_::_,_,_,_,_=>rfl
 |r,[],[],[],_,_,c,_=>c
 |r,_::_,[],_,_,_,c,_=>by cases c
 |r,_,_::_,[],_,_,_,c=>by cases c
 |r,g::s,e::A,m::J,aZ,bh,t,E=>by
  rw[fl,cI]at aZ bh;rw[fO]at t E ⊢;by_cases b:g=e
  ·subst b;rw[aE ((V.beq_iff g g).mpr rfl)]at t;by_cases a:g=m
   ·subst a;rw[aE ((V.beq_iff g g).mpr rfl)]at E ⊢;exact A_ aZ.2 bh.2 t E
   ·rw[ny a,aK dv]at E ⊢;exact E
  ·rw[ny b,aK dv]at t;by_cases a:e=m
   ·subst a;rw[ny b,aK dv];exact t
   ·rw[ny a,aK dv]at E;have d:=tV aZ.1 bh.1 t E;have f:¬ g=m:=λl=>by
     subst l;have:=nK bh.1 a;rw[t,E]at this;cases this
    rw[ny f,aK dv];exact d
end
def xM(O:bl)(h:ah)(H f:ae)(n:Bool):Prop:=(∀(Qy:bz) (l:bc) (Qt:ae->ah->Prop) (D:ae->ah->Prop),D (.bool n) h->wpAny (aO Qy l) O (nh .Lt H f) D Qt h)
def hx(C:Bool):List (Bool×Bool)->Bool
 |[]=>C
 | (d,n)::s=>if d=X then hx C s else n
section
open PySem.SeqAt
open PySem.AutoSeq1 (wpAny_loadPart')
open PySem.MeetsSeq PySem.MeetsSeq2 PySem.MeetsSeq3
def M9(x e:ak)(QL b:Array ae)(r z:Nat)(A B:Option ak)(aU C:Array (Option ae))(QF:List (Bool×Bool))(R:QF.length=min QL.size b.size):
  Meets (bq.«tuple.__lt__» ⟨[.ref x,.ref e],[]⟩)
   (λO Qu h=>h.heap.get? x=Z {cls:=.type "tuple",dict:=A,data:=.seq QL r,slots:=aU}/\h.heap.get? e=Z {cls:=.type "tuple",dict:=B,data:=.seq b z,slots:=C}/\
    (∀i (t:i<QL.size) (E:i<b.size) (o:i<QF.length),EqAt O.in1 h QL[i] b[i] (QF[i]).1/\((QF[i]).1=aq->xM O.in1 h QL[i] b[i] (QF[i]).2))/\
    Qu (.ok<|.ret<|.bool<|hx (decide (QL.size<b.size)) QF) h):=
 .of_wp λQy l O Qu h c=>by
  let⟨k,L,v,Q1,M⟩:=h;let@⟨D,F,G,c⟩:=c;have S:=Ef;have q:(QL.toList.zip b.toList).length=min QL.size b.size:=by simp
  wp_walk using wpAny_loadPart' D,wpAny_loadPart' F,m_ _ (λcM e Qp=>e.1=Y/\Qp=⟨k,L,v,Q1,M⟩/\∃a,cM=(QL.toList.zip b.toList).drop a/\
   Qu (.ok<|.ret<|.bool<|hx (decide (QL.size<b.size))<|QF.drop a) ⟨k,L,v,Q1,M⟩) _
  case turn=>
   rintro⟨H,f⟩ cM e Qp ⟨p,rfl,a,g,j⟩;have s:a<(QL.toList.zip b.toList).length:=by
    rcases e4 a (QL.toList.zip b.toList).length with T|T
    ·exact T
    ·rw[mR T]at g;cases g
   have U:a<min QL.size b.size:=q ▸ s;have t:a<QL.size:=⋯
   have E:a<b.size:=⋯
   have o:a<QF.length:=⋯
   rw[iE s]at g;injection g with u I;have J:H=QL[a]:=by have:=congrArg Prod.fst u;simpa using this
   have N:f=b[a]:=by have:=congrArg Prod.snd u;simpa using this
   subst J N;rw[iE o]at j;let@⟨w,y⟩:=G a t E o;generalize QF[a]=P at j w y;let⟨d,n⟩:=P;refine av (w Qy l _ _ ?_);cases d with
   |true=>
    have m:Qu (.ok<|.ret<|.bool<|hx (decide (QL.size<b.size))<|QF.drop<|a+1) ⟨k,L,v,Q1,M⟩:=j
    wp_walk
    exact⟨rfl,rfl,a+1,I,m⟩
   |false=>
    have m:Qu (.ok<|.ret<|.bool n) ⟨k,L,v,Q1,M⟩:=j;have Q:=y rfl Qy l
    wp_walk using Q
    exact⟨_,rfl,by simpa using m⟩
  case fin=>
   rintro⟨dV,dg⟩ Qp ⟨p,rfl,a,g,j⟩;simp only at p;subst p;have al:min QL.size b.size<=a:=by
    rcases e4 a (QL.toList.zip b.toList).length with T|T
    ·rw[iE T]at g;cases g
    ·exact q ▸ T
   rw[mR ⋯]at j;have m:Qu (.ok<|.ret<|.bool<|decide (QL.size<b.size)) ⟨k,L,v,Q1,M⟩:=j
   wp_walk
   exact⟨_,rfl,by simpa [bq.Tuple.tupleCompareSizes] using m⟩
  case h=>
   exact⟨rfl,rfl,0,rfl,by simpa using c⟩
end
def j_(I Qs:List V):List (Bool×Bool):=((I.zip Qs).map λq=>(cf q.1 q.2,bF q.1 q.2))
theorem Er:∀{r:Nat}{I Qs:List V},fl r I Qs=X->hx (decide (I.length<Qs.length)) (j_ I Qs)=fO I Qs
 |_,[],[],_=>rfl
 |r,g::s,e::A,c=>by
  rw[fl,cI]at c;show (if cf g e=X then hx (decide (s.length+1<A.length+1)) (j_ s A) else bF g e)=fO (g::s) (e::A);rw[fO,(o5 c.1).2.2,<-Er c.2,vW.mpr w9]
 |_,[],_::_,_=>rfl
 |_,_::_,[],_=>rfl
theorem u2{r:Nat}:∀{I Qs:List V}{i:Nat}{g e:V},fl r I Qs=X->I[i]?=Z g->Qs[i]?=Z e->eM r g e=X
 |[],Qs,i,g,e,_,c,_=>by simp at c
 |v::I,[],i,g,e,_,_,c=>by simp at c
 |v::I,d::Qs,0,g,e,c,t,E=>by
  rw[fl,cI]at c;cases t;cases E;exact c.1
 |v::I,d::Qs,i+1,g,e,c,t,E=>by
  rw[fl,cI]at c;exact u2 (i:=i) c.2 ⇑t ⇑E
def DB{O:bl}{a i:Int}(b:dr h.heap (.int a) J)(c:dr h.heap (.int i) u):xM O h J u (bF (.int a)<|.int i):=by
 let⟨@A,rfl⟩:=b;let⟨@QZ,rfl⟩:=c;intro Qy l Qt D p;rw[bF]at p;exact c4.KA O h a A i QZ Qy l Qt D p
def rm:∀{r:Nat}{f H:V},eM r f H=X->(∃a i,f=.int a/\H=.int i)\/∃k g e,r=k+1/\f=.tup g/\H=.tup e/\fl k g e=X:=by
 intro r f H c;unfold eM at c;split at c
 ·exact .inl ⟨_,_,rfl,rfl⟩
 ·exact .inr ⟨_,_,_,rfl,rfl,rfl,c⟩
 ·cases c
def A2(r:Nat):∀{O:bl}{f H:V}{J u:ae},eM r f H=X->O.units+r+2<bK->dr h.heap f J->dr h.heap H u->xM O h J u (bF f H):=by
 induction r with
 |zero=>
  intro O f H J u c G b j;rcases rm c with ⟨a,i,rfl,rfl⟩|⟨k,_,_,d,_⟩
  ·exact DB b j
  ·cases d
 |succ r L=>
  intro O f H J u c G b j;rcases rm c with ⟨a,i,rfl,rfl⟩|⟨k,I,Qs,d,rfl,rfl,c⟩
  ·exact DB b j
  cases d;let⟨g,o,QD,@k,rfl,t,E,m,n⟩:=b;let⟨e,R,y,@M,rfl,q,s,v,w⟩:=j;let⟨cls,N,data,aU⟩:=o;let⟨ap,Q,as,S⟩:=R;simp only at E m s v;subst E m s v;have aZ:I.length=QD.size:=by rw[n.length,dp]
  have bh:Qs.length=y.size:=by rw[w.length,dp]
  intro Qy l Qt D p;rw[bF,<-Er c,aZ,bh]at p;have T:(j_ I Qs).length=min QD.size y.size:=by rw[j_,bj,xW,aZ,bh]
  refine zZ (op:=.Lt) ⟨_,t,rfl⟩ ⟨_,q,rfl⟩ PySem.F.slot_tuple_lt PySem.F.entry_tuple_lt (PySem.F.args_tuple_lt_2 _ _) (M9 g e QD y k M N Q aU S (j_ I Qs) T)
   ⟨t,q,λi U al am=>?_,show ae.bool (hx (decide (QD.size<y.size))<|j_ I Qs)≠ae.notImplemented/\D (.bool<|hx (decide (QD.size<y.size))<|j_ I Qs) h from ⟨(λf=>nomatch f),p⟩⟩ ⋯;let⟨@Q_,x,z⟩:=n.get (i:=i) (u:=QD[i]) (by rw[eE];simp[U]);let⟨@Rb,A,B⟩:=w.get (i:=i) (u:=y[i]) (by rw[eE];simp[al]);have lk:=u2 c x A;have C:=o5 lk;have an:(j_ I Qs)[i]=(cf Q_ Rb,bF Q_ Rb):=by
   have:(j_ I Qs)[i]?=Z (cf Q_ Rb,bF Q_ Rb):=by
    rw[j_,eH,(t7 (z:=(Q_,Rb))).mpr ⟨x,A⟩];rfl
   rw[eb am]at this;exact Option.some.inj this
  rw[an];exact⟨iq r C.1 C.2.1 (by show O.units+1+r+1<bK;lia) z B,λ_=>L lk (by show O.units+1+r+2<bK;lia) z B⟩
end L2
namespace L2
open Spec PyProof.Rows PySem.W
variable{QD:List ae}{x I:List V}
theorem vP{QT:Type}{q p:QT->Bool}:∀{x:List QT},(∀f∈x,q f=X->p f=X)->(∃f∈x,p f=X/\q f=aq)->x.countP q<x.countP p
 |[],_,c=>by let⟨@f,a,W⟩:=c;cases a
 |g::x,c,⟨f,a,t,E⟩=>by
  rw[Fd,Fd];have le:x.countP q<=x.countP p:=List.countP_mono_left λH b=>c H (.tail _ b);rcases cu.mp a with rfl|a
  ·rw[t,E];simp;omega
  ·have:=vP (λH b=>c H<|.tail _ b) ⟨f,a,t,E⟩;have d:=c g (.head _);cases e:q g<;>cases h:p g<;>rw[e,h]at d<;>simp at d ⊢<;>omega
structure mT(I:List V):Prop where
 dc:I.length<=1000
 iW:∀g∈I,∀e∈I,eM 6 g e=X
structure rS(I:List V):Prop where
 dc:I.length<=1000
 iW:∀g∈I,∀e∈I,eM 6 g e=X
 ao:I.Nodup
def rS.w{I:List V}(o:rS I):mT I:=⟨o.dc,o.iW⟩
def oF(I:List V)(f:V):Nat:=(I.countP λv=>bF v f)
def Ca(o:mT I){f H:V}(a:f∈I)(b:H∈I)(c:bF f H=X):oF I f<oF I H:=
 vP (λe g d=>tV (o.iW e g f a) (o.iW f a H b) d c) ⟨f,a,c,qo f⟩
def Cf(o:mT I){f H:V}(a:f∈I)(b:H∈I):decide ((oF I f:Int)<(oF I H:Int))=bF f H:=by
 cases d:bF f H with
 |true=>exact dd (by have:=Ca o a b d;lia)
 |false=>
  refine c0 λe=>?_;by_cases c:f=H
  ·subst c;lia
  ·have A:=nK (o.iW f a H b) c;rw[d]at A;have QZ:bF H f=X:=by cases p:bF H f<;>rw[p]at A<;>simp at A ⊢
   have:=Ca o b a QZ;lia
def nZ(I:List V)(a:Nat):Int:=(oF I (I.getD a .aT))
def uu{a:Nat}(c:a<I.length):I.getD a .aT∈I:=by
 rw[cx,eb c];exact sE c
def Ac(o:mT I){q:Array Nat}(b:cP I.length q)(up:kU (nZ I) q I.length):(q.toList.map λa=>I.getD a .aT).Pairwise (λg e=>bF e g=aq):=by
 rw[mm];intro a i S c l;have Qx:=b.size;have j:a<I.length:=by simpa [Qx] using S
 have f:i<I.length:=by simpa [Qx] using c
 have le:=up a i ⋯ f;have L:∀n (h:n<(q.toList.map λa=>I.getD a .aT).length),(q.toList.map λa=>I.getD a .aT)[n]=I.getD (q.getD n 0) .aT:=λn h=>by
  have k:n<q.size:=by simpa using h
  rw[Dv,As];simp[Array.getD,k]
 rw[L a S,L i c];rw[<-Cf o (uu<|b.lt f) (uu<|b.lt j)];refine c0 ?_;have d:∀n,(oF I (I.getD (q.getD n 0) .aT):Int)=a7 (nZ I) q n:=λ_=>rfl;rw[d a,d i];lia
theorem Aj:∀{x k:List V},x.Perm k->x.Pairwise (λg e=>bF g e=X)->k.Pairwise (λg e=>bF g e=X)->(∀g∈x,∀e∈x,bF g e=X->bF e g=aq)->x=k
 |[],k,q,_,_,_=>(List.nil_perm.mp q).symm
 |g::x,k,q,t,E,a=>by
  cases k with
  |nil=>exact absurd q.length_eq ↥0
  |cons e k=>
   have d:g=e:=by
    by_cases d:g=e
    ·exact d
    ·have h:g∈k:=by
      rcases cu.mp (q.mem_iff.mp<|.head _) with z|z
      ·exact absurd z d
      ·exact z
     have b:e∈x:=by
      rcases cu.mp (q.mem_iff.mpr<|.head _) with z|z
      ·exact absurd z.symm d
      ·exact z
     have i:=(gH.mp t).1 e b;have c:=(gH.mp E).1 g h;rw[a g (.head _) e (.tail _ b) i]at c;cases c
   subst d;rw[Aj (Hb q) (gH.mp t).2 (gH.mp E).2 λf j H l=>a f (.tail _ j) H<|.tail _ l]
theorem sT(f:V):∀x:List V,(jF bF f x).Perm (f::x)
 |[]=>List.Perm.refl _
 |H::s=>by
  rw[jF];split
  ·exact List.Perm.refl _
  ·exact (List.Perm.cons H<|sT f s).trans (List.Perm.swap f H s)
theorem iF:∀x:List V,(hX bF x).Perm x
 |[]=>List.Perm.refl _
 |f::s=>(sT f _).trans (List.Perm.cons f<|iF s)
theorem Bo{f:V}:∀{x:List V},x.Pairwise (λg e=>bF g e=X)->(∀H∈x,f≠H)->(∀g∈f::x,∀e∈f::x,eM 6 g e=X)->(jF bF f x).Pairwise (λg e=>bF g e=X)
 |[],_,_,_=>eY _ _
 |H::s,c,r,lk=>by
  have T:=gH.mp c;rw[jF];split
  ·rename_i d;refine gH.mpr ⟨λb a=>?_,c⟩;rcases cu.mp a with rfl|a
   ·exact d
   ·exact tV (lk f (.head _) H<|.tail _<|.head _) (lk H (.tail _<|.head _) b<|.tail _<|.tail _ a) d (T.1 b a)
  ·rename_i d;refine gH.mpr ⟨λb a=>?_,Bo T.2 (λb a=>r b<|.tail _ a) λg h e i=>lk g ?_ e ?_⟩
   ·rcases cu.mp ((sT f s).mem_iff.mp a) with rfl|a
    ·have A:=nK (lk b (.head _) H<|.tail _<|.head _) (r H<|.head _);cases p:bF H b with
     |true=>rfl
     |false=>rw[p]at A;exact absurd A d
    ·exact T.1 b a
   ·rcases cu.mp h with rfl|h
    ·exact .head _
    ·exact .tail _ (.tail _ h)
   ·rcases cu.mp i with rfl|i
    ·exact .head _
    ·exact .tail _ (.tail _ i)
theorem tO:∀{x:List V},x.Nodup->(∀g∈x,∀e∈x,eM 6 g e=X)->(hX bF x).Pairwise (λg e=>bF g e=X)
 |[],_,_=>.nil
 |f::s,ao,lk=>by
  have c:=ic.mp ao;refine Bo (tO c.2 λg a e b=>lk g (.tail _ a) e<|.tail _ b) (λH h d=>c.1 (by rw[d];exact (iF s).mem_iff.mp h)) λg a e b=>lk g ?_ e ?_
  ·rcases cu.mp a with rfl|a
   ·exact .head _
   ·exact .tail _ ((iF s).mem_iff.mp a)
  ·rcases cu.mp b with rfl|b
   ·exact .head _
   ·exact .tail _ ((iF s).mem_iff.mp b)
def Ba(o:rS I)(q:x.Perm I)(c:x.Pairwise (λg e=>bF g e=X)):x=hX bF I:=by
 refine Aj (q.trans (iF I).symm) c (tO o.ao o.iW) λg a e b d=>?_;have A:=nK (o.iW g (q.mem_iff.mp a) e<|q.mem_iff.mp b) (λf=>by subst f;rw[qo]at d;cases d);rw[d]at A;cases p:bF e g with
 |false=>rfl
 |true=>rw[p]at A;cases A
theorem Ao{f:V}:∀{x:List V},x.Pairwise (λg e=>bF e g=aq)->(∀g∈f::x,∀e∈f::x,eM 6 g e=X)->(jF bF f x).Pairwise (λg e=>bF e g=aq)
 |[],_,_=>eY _ _
 |H::s,c,lk=>by
  have T:=gH.mp c;unfold jF;split
  ·rename_i d;refine gH.mpr ⟨λb a=>?_,c⟩;cases p:bF b f with
   |false=>rfl
   |true=>
    have A:=tV (lk b (.tail _ a) f<|.head _) (lk f (.head _) H<|.tail _<|.head _) p d;rcases cu.mp a with rfl|a
    ·rw[qo]at A;cases A
    ·rw[T.1 b a]at A;cases A
  ·rename_i d;refine gH.mpr ⟨λb a=>?_,Ao T.2 λg h e i=>lk g ?_ e ?_⟩
   ·rcases cu.mp ((sT f s).mem_iff.mp a) with rfl|a
    ·cases p:bF b H with
     |false=>rfl
     |true=>exact absurd p d
    ·exact T.1 b a
   ·rcases cu.mp h with rfl|h
    ·exact .head _
    ·exact .tail _ (.tail _ h)
   ·rcases cu.mp i with rfl|i
    ·exact .head _
    ·exact .tail _ (.tail _ i)
theorem B0:∀{x:List V},(∀g∈x,∀e∈x,eM 6 g e=X)->(hX bF x).Pairwise (λg e=>bF e g=aq)
 |[],_=>.nil
 |f::s,lk=>by
  refine Ao (B0 λg a e b=>lk g (.tail _ a) e<|.tail _ b) λg a e b=>lk g ?_ e ?_
  ·rcases cu.mp a with rfl|a
   ·exact .head _
   ·exact .tail _ ((iF s).mem_iff.mp a)
  ·rcases cu.mp b with rfl|b
   ·exact .head _
   ·exact .tail _ ((iF s).mem_iff.mp b)
def Bu(o:mT I)(q:x.Perm I)(c:x.Pairwise (λg e=>bF e g=aq)):x=hX bF I:=by
 refine Io (λg e a b f H=>?_) c (B0 o.iW) (q.trans (iF I).symm);by_cases d:g=e
 ·exact d
 ·have A:=nK (o.iW g (q.mem_iff.mp a) e<|(iF I).mem_iff.mp b) d;rw[f,H]at A;cases A
def hy:V->Bool
 |.tup (.int _::_)=>X
 |_=>aq
def lO:V->Bool
 |.tup (.tup _::_)=>X
 |_=>aq
section
variable{Qy:bz}{l:bc}{O:bl}{Qt:ae->ah->Prop}{h:ah}
theorem Cz{e C:Bool}(r:Nat)(j:O.units+r+2<bK){D:Bool->ah->Prop}:∀{I Qs:List V}{U F:List ae}{a:Nat},fl r I Qs=X->C=decide (I.length<Qs.length)->du h.heap I U->du h.heap Qs F->(e=X->a=0->∃n s,I=.int n::s)->D (fO I Qs) h->KatLex Qy l O e C D (U.zip F) a h
 |[],Qs,U,F,a,_,b,t,E,_,p=>by
  rw[show U=[] from t,b];exact kat_nil (by cases Qs<;>exact p)
 |v::I,[],U,F,a,_,b,t,E,_,p=>by
  rw[show F=[] from E,b,EA];exact kat_nil p
 |v::I,d::Qs,U,F,a,c,o,t,E,q,p=>by
  rw[fl,cI]at c;let⟨u,@U,rfl,f,w⟩:=t;let⟨J,@F,rfl,dV,dg⟩:=E;rw[wK];let@⟨x,Rf,y⟩:=o5 c.1;refine kat_cons (iq r x Rf ⋯ f dV Qy l _ _ ?_);rw[y];rw[fO]at p;cases k:V.beq v d with
  |true=>
   rw[k,aE rfl]at p;exact kat_yes (Cz r j c.2 (o.trans<|vW.mpr w9) w dg (λ_ m=>⋯) p)
  |false=>
   rw[k,aK dv]at p;refine kat_no ?_;by_cases b:(e&&a==0)=X
   ·rw[b];rw[cI]at b;let⟨n,@s,m⟩:=q b.1 ⇑(b.2);cases m;rcases rm c.1 with ⟨B,i,g,z⟩|⟨_,_,_,_,g,_⟩
    ·cases g;cases z;let⟨@A,rfl⟩:=f;let⟨@QZ,rfl⟩:=dV;rw[bF]at p;exact oneLt_int p
    ·cases g
   ·rw[show (e&&a==0)=aq by simpa using b];exact kat_one _ _ (A2 r c.1 j f dV Qy l _ _ p)
def Dx{e:Bool}(o:mT I)(j:du h.heap I QD)(bf:∀v∈I,∃s,v=.tup s)(x:e=X->∀v∈I,hy v=X)(M:O.units+9<bK):
  fz QD.length (nZ I) (eQ Qy l O (qm e)<|QD.toArray.zip QD.toArray) h:=by
 intro a i aL S y p;have N:=j.length;have b:=uu (I:=I) (a:=a) ⋯;have d:=uu (I:=I) (a:=i) ⋯;unfold nZ at p;rw[Cf o b d]at p;let⟨@Q_,m,z⟩:=j.get (i:=a) (u:=QD[a]) ↥0;let⟨@Rb,n,A⟩:=j.get (i:=i) (u:=QD[i]) ↥0;rw[cx,m,cx,n]at p;rw[cx,m]at b;rw[cx,n]at d;let⟨@g,B⟩:=bf Q_ b;let⟨@k,C⟩:=bf Rb d;subst B C;have lk:fl 5 g k=X:=o.iW _ b _ d;unfold eQ;rw[s6 rfl,s6 rfl,cx,cx,eb S,eb y];show wpAny _ _ (keyLt' (qm e) QD[a] QD[i]) _ _ _;let⟨f,P,w,@Q,D,E,R,F,q⟩:=z;let⟨H,T,QJ,@U,G,Q0,Q6,J,r⟩:=A;rw[D,G];refine kat_lt (b:=e) E F Q0 J ?_;have aZ:g.length=w.size:=by rw[q.length,dp]
 have bh:k.length=QJ.size:=by rw[r.length,dp]
 refine Cz 5 ⋯ lk (by rw[aZ,bh]) q r (λL W=>?_) (by have t:aL (bF (.tup g)<|.tup k) h:=p;rw[bF]at t;exact t);have:=x L _ b;unfold hy at this;split at this
 ·rename_i c;cases c;exact⟨_,_,rfl⟩
 ·cases this
theorem DE:∀{I:List V}{QD:List ae},du h.heap I QD->(∀v∈I,hy v=X)\/(∀v∈I,lO v=X)->∃ab,KatTups h.heap QD ab/\ab.length=QD.length/\
  ((∀v∈I,hy v=X)->∀u∈ab,∃a A,u=ae.int a A)/\((∀v∈I,lO v=X)->∀u∈ab,∃g i,u=ae.ref g/\h.heap.get? g=Z i/\i.cls=.type "tuple")
 |[],QD,c,_=>by
  rw[show QD=[] from c];exact⟨[],trivial,rfl,(λ_ W c=>nomatch c),(λ_ W c=>nomatch c)⟩
 |v::I,QD,c,j=>by
  let⟨u,@s,rfl,t,E⟩:=c;let⟨@ab,m,n,q,w⟩:=DE E (j.imp (λz f b=>z f<|.tail _ b) λz f b=>z f<|.tail _ b);have nu:∃C Ra,v=.tup (C::Ra):=by
   rcases j with z|z
   ·have:=z v (.head _);unfold hy at this;split at this
    ·exact⟨_,_,rfl⟩
    ·cases this
   ·have:=z v (.head _);unfold lO at this;split at this
    ·exact⟨_,_,rfl⟩
    ·cases this
  let⟨C,@Ra,rfl⟩:=nu;let⟨g,o,QL,@r,rfl,x,y,B,D⟩:=t;let⟨k,@L,d,l,M⟩:=D;have F:QL[0]?=Z k:=by
   rw[<-eE,d];rfl
  refine⟨k::ab,KatTups.cons x y B F m,by simp[n],λz J e=>?_,λz J e=>?_⟩
  ·rcases cu.mp e with rfl|e
   ·have:=z _ (.head _);unfold hy at this;split at this
    ·rename_i p;cases p;exact⟨_,l⟩
    ·cases this
   ·exact q (λf b=>z f<|.tail _ b) J e
  ·rcases cu.mp e with rfl|e
   ·have:=z _ (.head _);unfold lO at this;split at this
    ·rename_i p;cases p;let⟨G,R,W,@W,H,Q0,Q6,W⟩:=l;exact⟨G,R,H,Q0,Q6⟩
    ·cases this
   ·exact w (λf b=>z f<|.tail _ b) J e
end
section
variable{b:aJ}
theorem bx.pick{j:aw}{QJ:List af}(c:bx j I QJ):∀{q:List Nat},(∀n∈q,n<I.length)->bx j (q.map λa=>I.getD a .aT) (q.map λa=>QJ.getD a .aT)
 |[],_=>rfl
 |n::q,b=>by
  let⟨@u,d,e⟩:=c.get (a:=n) (v:=I.getD n .aT) (by
   have:=b n (.head _);rw[cx,eb this];rfl)
  refine⟨u,_,?_,e,c.pick λi f=>b i<|.tail _ f⟩;rw[cH,cx,d];rfl
structure nB(I:List V):Prop where
 ord:rS I
 fst:(∀v∈I,hy v=X)\/(∀v∈I,lO v=X)
structure pJ(I:List V):Prop where
 ord:mT I
 fst:(∀v∈I,hy v=X)\/(∀v∈I,lO v=X)
def nB.w{I:List V}(o:nB I):pJ I:=⟨o.ord.w,o.fst⟩
def pJ.tup(o:pJ I):∀v∈I,∃s,v=.tup s:=λv a=>by
 rcases o.fst with z|z
 ·have:=z v a;unfold hy at this;split at this
  ·exact⟨_,rfl⟩
  ·cases this
 ·have:=z v a;unfold lO at this;split at this
  ·exact⟨_,rfl⟩
  ·cases this
def du.rH{c T:aV}(n:∀e o,c.get? e=Z o->T.get? e=Z o){I:List V}{U:List ae}(f:du c I U):du T I U:=f.keep λg o W W d W W=>n g o d
def AY{c:aV}{h:ah}(o:pJ I)(E:2<=QD.length)(i:du h.heap I QD)(O:bl)(Qt:ae->ah->Prop)(D:gf->ah->Prop)(d:D (qm<|decide (∀v∈I,hy v=X)) h):
  wpAny (aO b.prog b.w) O (wu QD.toArray) D Qt h:=by
 let⟨@ab,j,s,k,m⟩:=DE i o.fst;have t:=i.length;by_cases e:∀v∈I,hy v=X
 ·rw[dd e]at d;refine kat_kind (T:=ae.type "int") j ⋯ (λu f=>?_) rfl ?_
  ·let⟨a,@A,rfl⟩:=k e u f;exact Fn rfl
  ·rw[show (ae.type "int" != ae.type "tuple")=X by decide];exact d
 ·rw[c0 e]at d;have n:=o.fst.resolve_left e;refine kat_kind (T:=ae.type "tuple") j ⋯ (λu f=>?_) rfl ?_
  ·let⟨g,@p,rfl,q,r⟩:=m n u f;have:Looks (aO b.prog b.w) h.heap (qG<|.ref g) p.cls:=(Looks.ld q).andThen .now;rw[r]at this;exact this
  ·rw[show (ae.type "tuple" != ae.type "tuple")=aq by decide];exact d
def FL(y:b.calm=X)(T:b.A.units+20<bK):ep b (.builtin "sorted") (λw j D=>∃(g:ak) (I:List V) (QJ:List af),w=[.ref g]/\(cT b.K j g QJ\/cb b.K j g QJ)/\bx j I QJ/\pJ I/\
  ∀x M,j x=Y->bx j (hX bF I) M->D (.ref x) (upd j x<|.lst M)):=by
 intro Q h B j w QR D G s c;let⟨g,I,@QJ,rfl,Qx,S,o,p⟩:=c;let⟨@J,rfl,z⟩:=hF s;cases z;have C:QJ.length<=1000:=by rw[<-S.length];exact o.ord.dc
 have go:∀{Qq:String}{QD:List ae}{r:Nat}{e:a3},(Qq = "list" \/ Qq = "tuple")->bM QJ QD->h.heap.get? g=Z e->e.cls=.type Qq->e.data=.seq QD.toArray r->wpAny (aO b.prog b.w) b.A (call (.builtin "sorted") [.ref g]) (d4 b Q B D) b.cE h:=by
  intro Qq QD r e F f d aC i;have m:=S.eJ G.a0 f;have H:QD.length=I.length:=m.length.symm;refine D1 y (nZ I) (qm<|decide (∀v∈I,hy v=X)) G f F d aC i C (λE t Q1 n O Qt D L=>AY (c:=t) o E (m.rH n) O Qt D L) (λt Q1 n=>?_) (.inl (by have:=o.ord.dc;lia)) λq x k u aR=>?_
  ·refine Dx (h:={h with heap:=t,toks:=Q1}) o.ord (m.rH n) o.tup (λN=>?_) (by show b.A.units+1+1+9<bK;lia);exact hY N
  ·rw[H]at k u;have P:(q.toList.map λa=>I.getD a .aT)=hX bF I:=Bu o.ord (we k) (Ac o.ord k u);refine p x _ aR ?_;rw[<-P];exact S.pick λn R=>e0.mp (k.mem_iff.mp R)
 rcases Qx with Qx|Qx
 ·let⟨@QD,f,q,W⟩:=G.list Qx;let⟨@e,d,aC,⟨@r,i⟩⟩:=q.isList;exact go (.inl rfl) f d aC i
 ·let⟨@QD,f,q,W⟩:=G.tuple Qx;let⟨@e,d,aC,⟨@r,i⟩⟩:=q;exact go (.inr rfl) f d aC i
theorem zS{j:aw}:∀{QG:List (List V×af)}{Qs:List (List V×ak×ae)},d0 (λ(q:List V×af) (p:List V×ak×ae)=>q.1=p.1/\hp j q.1 p.2.1/\b7 q.2 p.2.2) QG Qs->
  bx j (QG.map λq=>.tup q.1) (Qs.map λf=>af.ref f.2.1)/\bM (Qs.map λf=>af.ref f.2.1) (Qs.map λf=>ae.ref f.2.1)
 |_,_,.nil=>⟨rfl,.nil⟩
 |_,_,.cons s A=>by
  let@⟨t,E⟩:=zS A;exact⟨⟨_,_,rfl,s.2.1.2,t⟩,.cons rfl E⟩
def MJ(bi:b.calm=X)(dL:b.A.units+20<bK):ep b (.builtin "sorted") (λw j D=>∃(v:ak) (QG:List (List V×af)),w=[.ref v]/\j v=Z (.aH QG)/\nB (QG.map λq=>.tup q.1)/\
  ∀x M,j x=Y->bx j (hX bF<|QG.map λq=>.tup q.1) M->D (.ref x) (upd j x<|.lst M)):=by
 intro Q h B j w QR D G s c;let⟨v,@QG,rfl,bm,g,p⟩:=c;let⟨@J,rfl,bn⟩:=hF s;cases bn;let@⟨z,R,⟨@Qs,rel,⟨o,bs,@Rc,bv,ca,cd,ce,ao⟩⟩⟩:=G.a0 v _ bm;let@⟨S,m⟩:=zS rel;have am:ie h.heap v (Qs.map λf=>ae.ref f.2.1) Rc:=⟨o,bs,bv,ca,cd,by rw[ce,gz];rfl⟩;generalize (Qs.map λf=>ae.ref f.2.1)=QD at m am;generalize (Qs.map λf=>af.ref f.2.1)=QJ at S m;generalize eq:(QG.map λq=>V.tup q.1)=I at S g p;have F:=S.eJ G.a0 m;have an:QD.length=I.length:=F.length.symm;have dc:=g.ord.dc;have ev:QJ.length=QD.length:=m.length;have ap:QD.length<=sizeLine:=eG ⋯ (show 1000<=sizeLine by decide);refine A1 kind_sorted A7 Fy (zg _) ?z
 case z=>
  unfold bq.«sorted»;refine av (m:=checkCount "sorted" 1 1 _) (aS<|av<|kdu_collect (A:=b.A.in1) (Hv R) (G.ok.hd bi) am ap λT Q1 L N as=>?_);have ch:L.toList=QD:=by
   apply D3
   ·rw[dp];exact as.1
   ·intro a t E;have:=as.2 a L.toList[a] (by rw[<-eE];exact eb t);have this:QD[a]?=Z L.toList[a]:=this;rw[eb E]at this;exact (Option.some.inj this).symm
  rw[ch];refine av (yv ?_ ap);have a1:(T.push<|fX "list" QD.toArray 0).get? T.objs.size=Z (fX "list" QD.toArray 0):=c_ _ rfl;have bu:∀e o,h.heap.get? e=Z o->(T.push<|fX "list" QD.toArray 0).get? e=Z o:=λe o d=>b6 _ (N e o d);have a2:aA b Q B j {h with heap:=T,toks:=Q1}:=G.kept N;have bd:∀e o,h.heap.get? e=Z o->e≠T.objs.size:=λe o d=>c1 (b1<|N e o d);refine av (fc<|iN Ce ⟨_,a1,rfl⟩ Fj ?H<|BL _)
  case H=>
   refine zm (h:={h with heap:=T.push (fX "list" QD.toArray 0),toks:=Q1}) (nZ I) (qm<|decide (∀v∈I,hy v=X)) a1
    (λE P U D ci=>AY (b:=b) (c:=P) g.w E (F.rH λe o r=>U e o (bd e o r)<|bu e o r) _ _ D ci)
    (λP U=>Dx (h:={h with heap:=P,toks:=Q1}) g.w.ord (F.rH λe o r=>U e o (bd e o r)<|bu e o r) g.w.tup (λcl=>hY cl) (by show b.A.units+1+1+9<bK;lia))
    (.inl ⋯) ⋯ λq E i be Q6 ⟨co,cr⟩=>⟨_,rfl,aS ⟨_,rfl,?_⟩⟩;have cs:j T.objs.size=Y:=a2.a0.fresh (a5 _);have db:∀e o,T.get? e=Z o->e≠T.objs.size:=λe o d=>c1 (b1 d);rw[an]at i be;refine⟨.ref T.objs.size,upd j T.objs.size<|.lst<|q.toList.map λa=>QJ.getD a .aT,?_,rfl,p _ _ cs ?_⟩
   ·refine a2.laid (QZ:=Q1) (λe J d=>Q6 e J (db e J d)<|b6 _ d) (a5 _) ⟨?_,_,co,?_,cr⟩
    ·rw[bj,dp,i.size];lia
    ·refine rO ↥0 λa u J t E=>?_;rw[eH]at t E;cases al:q.toList[a]? with
     |none=>rw[al]at t;cases t
     |some n=>
      rw[al]at t E;cases t;cases E;have y:n<QD.length:=by rw[an];exact e0.mp (i.mem_iff.mp<|fe al)
      let⟨@J,C,ds⟩:=m.get (a:=n) (f:=QJ[n]'⋯) (by simp[show n<QJ.length by lia]);rw[eb y]at C;have C:=Option.some.inj C;simp only[List.getD,eb y,eb (show n<QJ.length by lia),sN];rw[C];exact ds
   ·rw[<-Bu g.w.ord (we i) (Ac g.w.ord i be)];exact S.pick λn y=>e0.mp (i.mem_iff.mp y)
def xx(I:List V):Bool:=(decide (I.length<=1000)&&I.all (λg=>I.all λe=>eM 6 g e)&&decide I.Nodup&&(I.all hy || I.all lO))
def oU:xx I=X↔nB I:=by
 unfold xx;rw[cI,cI,cI,xb,j1,j1,iC,iC,iC];constructor
 ·rintro⟨⟨⟨t,E⟩,a⟩,b⟩;exact⟨⟨t,λg c e d=>iC.mp (E g c) e d,a⟩,b⟩
 ·rintro⟨⟨t,E,a⟩,b⟩;exact⟨⟨⟨t,λg c=>iC.mpr λe d=>E g c e d⟩,a⟩,b⟩
def gJ(I:List V):Option ai:=(if xx I=X then Z (.lst<|hX bF I) else Y)
def jl:h6:=(λI=>match I with
 |[.lst f]=>match p8 f with
  |some QM=>vr [.lst f]
  |none=>gJ f
 |[.im (.tup f)]=>gJ f
 |[.aH QG]=>gJ (QG.map λq=>.tup q.1)
 |_=>Y)
def xP{v:ai}(c:gJ I=Z v):nB I/\v=.lst (hX bF I):=by
 unfold gJ at c;split at c
 ·rename_i d;cases c;exact⟨oU.mp d,rfl⟩
 ·cases c
theorem FY{j:aw}:∀{QG:List (List V×V)}{i:List (List V×af)},ej j QG i->(QG.map λq=>V.tup q.1)=i.map λq=>V.tup q.1
 |_,_,.nil=>rfl
 |_,_,.cons s A=>by rw[cH,cH,FY A,s.1]
def sz(g:b.calm=X)(k:b.A.units+20<bK):g8 b (.builtin "sorted") jl:=by
 intro Q h B j w QR D G s n;let⟨I,@v,m,d,p⟩:=n;unfold jl at d;split at d
 ·rename_i f;split at d
  ·exact JL g k Q h B j w QR D G s ⟨_,v,m,d,p⟩
  ·let@⟨c,rfl⟩:=xP d;let⟨@u,rfl,⟨W,q,@QJ,rfl,t,E,W⟩⟩:=f7 m;exact FL g k Q h B j _ QR D G s ⟨q,f,QJ,rfl,.inl<|cT.of t,E,c.w,λx M aR e=>b5.l p aR e⟩
 ·rename_i f;let@⟨c,rfl⟩:=xP d;let⟨@u,rfl,o⟩:=f7 m;let⟨q,@QJ,rfl,t,E⟩:=o.i;exact FL g k Q h B j _ QR D G s ⟨q,f,QJ,rfl,.inr<|cb.of t,E,c.w,λx M aR e=>b5.l p aR e⟩
 ·rename_i QG;let@⟨c,rfl⟩:=xP d;let⟨@u,rfl,⟨W,q,@i,rfl,t,E,W⟩⟩:=f7 m;rw[FY E]at c p;exact MJ g k Q h B j _ QR D G s ⟨q,i,rfl,t,c,λx M aR e=>b5.l p aR e⟩
 ·cases d
end
end L2
namespace PySem
open PySem.Sem (wp)
def OS:uv (.type "list") "keys" = pure Y:=by rw[uO,x3];kernel_rfl
def Gg{Qy:bz}{l:bc}{O:bl}{Qt:ae->ah->Prop}{h:ah}{g:ak}{w:Array ae}{n:Nat}{D:Option ae->ah->Prop}(a:h.heap.get? g=Z {cls:=.type "list",data:=.seq w n})(j:O.handled=Y)(c:∀T Q1,(∀e o,h.heap.get? e=Z o->T.get? e=Z o)->D Y {h with heap:=T,toks:=Q1}):wpAny (aO Qy l) O (getAttr? (.ref g) "keys") D Qt h:=by
 let⟨k,L,v,Q1,M⟩:=h;have b:∀f,(⟨k,L,v,f,M⟩:ah).TypeIs (.ref g) "list" := λ_=>⟨_,a,rfl⟩;have r:=sub_AttributeError;have s:=u_.lookup;have t:=u_.bind (.ref g);have u:=am_list_getattr_none;unfold getAttr? getAttrBy? getAttrBy;repeat (any_goals (first|assumption|exact b _|((with_reducible show wpAny _ _ (call (ae.builtin "list.__getattribute__") _ _) _ _ _);refine qS u_ (b _) am_entry_list_getattribute (F.args_list_getattribute_2 _ _) (meets_getattribute_miss_list g w n _ "keys" _ OS (by decide +kernel) ∅) ⟨a,j,λT f d i=>?_⟩)|wp_step))
 let⟨QZ,@x,m⟩:=i.there;show wpAny _ _ (z_ _ _ _ _ _ _ _) _ _ _;unfold z_;have p:∀q,(⟨T,L,v,q,M⟩:ah).TypeIs (.ref d) "AttributeError" := λ_=>⟨_,m,rfl⟩;repeat (any_goals (first|assumption|exact p _|wp_step))
 exact c T _ i.keeps
end PySem
namespace PySem
namespace F
def Dk:vR table "dict.update.loop" = Z bq.«dict.update.loop»:=entryFor_of_tree (by kernel_rfl)
def r0:plainId "dict.update.loop" = X:=by decide +kernel
end F
end PySem
namespace L2
open Spec PyProof.Rows PySem.W
variable{r:Nat}{Qs:List bk}{QL:Array ae}{A:ak}{h:ah}{QK:Pos}{u n:bk}
theorem xF{QT Rk:Type}{P:QT->Rk->Prop}:∀{b:List QT}{d:List Rk},d0 P b d->∀(a:Nat),a<b.length->∃g e,b[a]?=Z g/\d[a]?=Z e/\P g e
 |_,_,.nil,a,c=>by simp at c
 |_,_,.cons s A,0,c=>⟨_,_,rfl,rfl,s⟩
 |_,_,.cons s A,a+1,c=>by
  let⟨g,@e,f,H,h⟩:=xF A a ⇑c;exact⟨g,e,by simpa using f,by simpa using H,h⟩
def h_:List V->Option (List<|List V×V)
 |[]=>Z []
 |.tup [.tup n,v]::s=>(h_ s).map λh=>(n,v)::h
 |_=>Y
def G2:∀{f:List V}{QF:List (List V×V)},h_ f=Z QF->f=QF.map λq=>.tup [.tup q.1,q.2]:=by
 intro f;induction f with
 |nil=>intro QF c;cases c;rfl
 |cons g f a=>
  intro QF c;unfold h_ at c;split at c
  ·cases c;rename_i d;cases d
  ·rename_i n v s d;cases d;let⟨@h,b,e⟩:=cw.mp c;cases e;rw[cH,<-a b]
  ·cases c
def en(QF:List (List V×V)):List (List V×V):=(QF.foldl (λg q=>fW g q.1 q.2) [])
def vx(j:aw)(u:af)(q:List V×V):Prop:=(∃A g H,u=.ref A/\j A=Z (.tup [.ref g,H])/\hp j q.1 g/\cq j q.2 H)
theorem Au{j:aw}:∀{QF:List (List V×V)}{QJ:List af},(∀q∈QF,V.keys 7 q.1=X)->bx j (QF.map λq=>.tup [.tup q.1,q.2]) QJ->d0 (vx j) QJ QF
 |[],QJ,_,c=>by rw[show QJ=[] from c];exact .nil
 |q::QF,QJ,a,c=>by
  let⟨u,@s,rfl,⟨A,@M,rfl,t,⟨v1,@m,rfl,E,⟨b,@d,rfl,e,f⟩⟩⟩,h⟩:=c;cases (show d=[] from f);let⟨g,@F,rfl,i,k⟩:=E;exact .cons ⟨A,g,b,rfl,t,⟨a q<|.head _,g,F,rfl,i,k⟩,e⟩ (Au (λp l=>a p<|.tail _ l) h)
section
variable{b:aJ}{Q:List (ak×a3)}{B:L2.aW}{j:aw}{z:ah}
def fw.is{QG:List (List V×af)}{w:List (List V×ak×ae)}(s:fw j QG w):∀f∈w,hp j f.1 f.2.1:=by
 intro f b;let⟨a,S,rfl⟩:=kL.mp b;let⟨q,@p,t,E,c,d,W⟩:=xF s a (by rw[d0.length s];exact S);rw[eb S]at E;have E:=Option.some.inj E;subst E;rw[<-c];exact d
def wL(a:aA b Q B j z){y:ak}{c T:aV}{QG:List (List V×af)}{w:List (List V×ak×ae)}(d:c.DictOfH (d8 b.prog b.w) y w)(i:fw j QG w)(da:∀e o,z.heap.get? e=Z o->T.get? e=Z o)(g:∀o,c.get? y=Z o->T.get? y=Z o):T.DictOfH (d8 b.prog b.w) y w:=by
 let⟨o,Qs,@Rc,t,E,h,k,W,m⟩:=d;have n:aA b Q B j {z with heap:=T}:=a.kept (QZ:=z.toks) da;exact⟨o,Qs,Rc,g o t,E,h,k,λf p=>l9 (c:=T) n.a0<|i.is f p,m⟩
def Kh(v:aA b Q B j z){O:bl}(bm:O.units+20<bK){y eP x:ak}{U:List ae}{QJ:List af}{QF:List (List V×V)}{aW:Nat->aV->Prop}{Qu:oL->ah->Prop}(C:bM QJ U)(an:d0 (vx j) QJ QF)(f8:QF.length<=1000)(W:kM b.prog b.w O.in1 eP [eP,x] [eP] U.length (λa u=>U[a]?=Z u) aW)(bn:z.heap.get? y=Y)(D:z.heap.get? eP=Y)(E:y≠eP)(bs:y≠x)(bv:∀(h:ah) (w:List (List V×ak×ae)) (QG:List (List V×af)),(∀e o,z.heap.get? e=Z o->h.heap.get? e=Z o)->h.heap.DictOfH (d8 b.prog b.w) y w->fw j QG w->ej j (en QF) QG->QG.length<=1000->
   h.gens=z.gens->h.drawn=z.drawn->h.os=z.os->Qu (.ok<|.ret .none) h):
  ∀(k a:Nat) (A:hH) (h:ah) (w:List (List V×ak×ae)) (QG:List (List V×af)),U.length-a=k->a<=U.length->aW a h.heap->(∀e o,z.heap.get? e=Z o->h.heap.get? e=Z o)->
   h.heap.DictOfH (d8 b.prog b.w) y w->fw j QG w->ej j (en<|QF.take a) QG->QG.length<=a->h.gens=z.gens->h.drawn=z.drawn->h.os=z.os->
   codeAny (aO b.prog b.w) O (.builtin "dict.update.loop" ⟨[.ref y,.ref eP,.int a A,.none],[]⟩) Qu h:=by
 have ga:U.length=QF.length:=by rw[<-C.length,d0.length an]
 intro k;induction k with
 |zero=>
  intro a A h w QG ca S N da G i t cd I L R;have ce:a=U.length:=⋯
  refine iQ F.Dk ?_;rw[je F.r0 _];refine av (m:=gC (.ref eP)) (W.done h _ _ (ce ▸ N) λT Q1 keep=>?_);refine av (m:=bq.Dict.addKeywords y []) (aS<|aS ?_);have s:∀e o,e≠eP->h.heap.get? e=Z o->T.get? e=Z o:=λe o p d=>keep e o ⇑p d;refine bv _ w QG (λe o d=>s e o (λf=>by rw[f,D]at d;cases d)<|da e o d) ?_ i (by rw[qM ⋯]at t;exact t) ⋯ I L R;exact wL v G i (λe o d=>s e o (λf=>by rw[f,D]at d;cases d)<|da e o d) λo d=>s y o E d
 |succ k ch=>
  intro a A h w QG ca S N da G i t cd I L R;have lt:a<U.length:=⋯
  refine iQ F.Dk ?_;rw[je F.r0 _];refine av (m:=gC (.ref eP)) (W.item a h _ _ lt N λu T Q1 ci cl keep=>?_);have s:∀e o,e≠eP->h.heap.get? e=Z o->T.get? e=Z o:=λe o p d=>keep e o ⇑p d;let⟨H,@m,co,cr,⟨q,g,@ap,rfl,cs,as,db⟩⟩:=xF an a (by rw[C.length];exact lt);let⟨@J,a1,ds⟩:=C.get co;rw[ci]at a1;cases a1;cases ds;have al:∀e o,z.heap.get? e=Z o->T.get? e=Z o:=λe o d=>s e o (λf=>by rw[f,D]at d;cases d) (da e o d);have a2:aA b Q B j {z with heap:=T}:=v.kept (QZ:=z.toks) al;have dL:=wL v G i al λo d=>s y o E d;let@⟨_,⟨@QD,eq,⟨@o,bd,ev,⟨@r,ex⟩⟩⟩⟩:=a2.a0 _ _ cs;let⟨ge,@am,rfl,fd,fn⟩:=p6 eq;cases fd;show wpAny (aO b.prog b.w) O.in1 (holding [.ref q] _ >>= λ_=>again _) _ _ _;refine av (fc<|av<|pG ?_);unfold bq.Dict.pairItems;refine av (wpAny_typeOf (s:={h with heap:=T,toks:=Q1}) (⟨o,bd,(Prod.mk.inj ev).1⟩:ah.TypeIs {h with heap:=T,toks:=Q1} (.ref q) "tuple") ?_);rw[aE ∅];refine av (hj (s:={h with heap:=T,toks:=Q1}) bd ex<|aS ?_);show wpAny (aO b.prog b.w) O.in1 (holding [.ref g,am]<|dictSet y (.ref g) am) _ _ _;refine fc (C0 (s:={h with heap:=T,toks:=Q1}) (k:=m.1) (knd:=d8 b.prog b.w) (qE bm) (l9 (c:=T) a2.a0 as) dL (λfr f0 cn=>?_) (by
   have:=d0.length i;exact eG (show w.length<=1000 by lia) ∅))
  have be:∀e o,e≠y->T.get? e=Z o->fr.get? e=Z o:=λe o p d=>(cn.2 e p).trans d;have f1:=i.put m.1 (e:=g) (H:=ap) (J:=am) as fn;have f2:QF.take (a+1)=QF.take a++[m]:=by
   have bi:=(e9.mp cr);rw[Cx bi.1,bi.2]
  have f4:ej j (en<|QF.take<|a+1) (gR QG m.1 ap):=by
   rw[f2];unfold en;rw[yw];exact ej.put db t
  refine aS ⟨jv F.r0 _,ch (a+1) 0 _ _ _ ⋯ lt (W.frame _ _ _ cl λe p o d=>be e o (λf=>by
    subst f;rcases cu.mp p with f|p
    ·exact E f
    ·exact bs (cK.mp p)) d) (λe o d=>be e o (λf=>by rw[f,bn]at d;cases d)<|al e o d) f0 f1 f4 ?_ I L R⟩
  unfold gR;split
  ·rw[bj];lia
  ·simp;lia
def Mv(C:b.calm=X)(co:b.A.units+30<bK):ep b (.type "dict") (λw j D=>∃(x:ak) (QJ:List af) (QF:List (List V×V)),w=[.ref x]/\j x=Z (.lst QJ)/\d0 (vx j) QJ QF/\QF.length<=1000/\
  ∀(v:ak) (QG:List (List V×af)),j v=Y->ej j (en QF) QG->D (.ref v) (upd j v<|.aH QG)):=by
 intro Q h B j w QR D G s c;let⟨x,QJ,@QF,rfl,S,U,al,p⟩:=c;let⟨@J,rfl,am⟩:=hF s;cases am;let@⟨z,⟨QD,@r,an,d⟩⟩:=G.a0 x _ S;have E:x<h.heap.objs.size:=b1 d;refine Dh (Q₁:=λH I=>H=.ref h.heap.objs.size/\I={h with heap:=h.heap.push {cls:=.type "dict",data:=.dict #[]} }) PySem.F.kt_called_dict (PySem.F.kt_typeCall_dict_1 _) PySem.F.entry_dict_init (kt_code_dict_new _ ⟨rfl,rfl⟩) ?_;rintro H I ⟨rfl,rfl⟩;have ap:(h.heap.push {cls:=.type "dict",data:=.dict #[]}).DictOfH (d8 b.prog b.w) h.heap.objs.size []:=aV.DictOfH.new h.heap;have L:ah.TypeIs {h with heap:=h.heap.push {cls:=.type "dict",data:=.dict #[]} } (.ref h.heap.objs.size) "dict" := ⟨_,c_ _ rfl,rfl⟩;have f:(h.heap.push {cls:=.type "dict",data:=.dict #[]}).get? x=Z {cls:=.type "list",data:=.seq QD.toArray r}:=b6 _ d;refine⟨L,PySem.F.args_dict_init_2 _ _,?_⟩;unfold bq.«dict.__init__»;refine av ?_;unfold bq.Dict.selfAndRest;refine av (Dc L ?_);show wpAny _ _ (pure (h.heap.objs.size,[ae.ref x])) _ _ _;refine aS ?_;show wpAny _ _ (bq.Dict.updateFrom "dict.__init__" h.heap.objs.size (.ref x) [] .none) _ _ _;unfold bq.Dict.updateFrom;refine av (wpAny_typeOf (⟨_,f,rfl⟩:ah.TypeIs {h with heap:=h.heap.push {cls:=.type "dict",data:=.dict #[]} } (.ref x) "list") ?_);rw[aE ∅];refine av (Gg (h:={h with heap:=h.heap.push {cls:=.type "dict",data:=.dict #[]} }) f (G.ok.hd C) λt Q1 Q0=>?_);rw[aE (show (Y:Option ae).isNone=X from rfl)];refine av (m:=rule _) (iJ ?_);have N:t.IsList x QD.toArray:=⟨_,Q0 _ _ f,rfl,r,rfl⟩;refine av (rr (s:={h with heap:=t,toks:=Q1}) N ?_);have g:h.heap.objs.size<t.objs.size:=b1 (Q0 _ _<|c_ _ rfl);have da:∀e o,h.heap.get? e=Z o->(t.push {cls:=.type "list_iterator",data:=.fields #[.ref x,.int 0 0]}).get? e=Z o:=λe o i=>b6 _ (Q0 e o<|b6 _ i);refine aS ⟨jv PySem.F.r0 _,?_⟩;have as:(t.push {cls:=.type "list_iterator",data:=.fields #[.ref x,.int 0 0]}).DictOfH (d8 b.prog b.w) h.heap.objs.size []:=wL G (QG:=[]) ap .nil da λo a1=>b6 _ (Q0 _ _ a1);have a2:x≠t.objs.size:=c1 (o8 E g);refine Kh G (O:=b.A.in1) (by show b.A.units+1+20<bK;lia) (y:=h.heap.objs.size) (eP:=t.objs.size) (x:=x) (aW:=λa c=>c.IsListIter t.objs.size x a/\c.IsList x QD.toArray) an U al ?_ (u4<|a5 _) (u4<|mj g) (c1 g) (ng E)
  (λQp w QG bd be bi bm cs m n q=>?_) QD.length 0 0 _ [] [] rfl (fo _) ?_ da as .nil .nil (a5 _) rfl rfl rfl
 ·have W:=kM.list (prog:=b.prog) (w:=b.w) (A:=b.A.in1.in1) (G.ok.hd C) t.objs.size x a2 QD.toArray;have bn:(λ(a:Nat) (u:ae)=>QD.toArray[a]?=Z u)=λa u=>QD[a]?=Z u:=by
   funext a u;rw[yd]
  rw[bn,cB]at W;exact W
 ·let⟨T,bs,bv,QZ,ca⟩:=Qp;have m:bs=h.gens:=m;have n:bv=h.drawn:=n;have q:ca=h.os:=q;subst m n q;have R:j h.heap.objs.size=Y:=G.a0.fresh (a5 _);let⟨o,Qs,@Rc,cd,ce,ch,ci,P,cl⟩:=be;refine⟨rfl,.ref h.heap.objs.size,_,G.laid (o:=.aH QG) (T:=T) (QZ:=QZ) bd (a5 _) ⟨eG (show QG.length<=1000 by lia) ∅,uQ.mpr<|fP<|c1 G.big,w,bi.keeps λe QJ i=>zT i R,o,Qs,Rc,cd,ce,ch,ci,cl⟩,rfl,p _ QG R bm⟩
 ·exact⟨⟨_,c_ _ rfl,rfl,rfl⟩,N.push _⟩
@[simp] def ij:h6:=λI=>match I with
 |[.lst f]=>(h_ f).bind λQF=>if (QF.all λq=>V.keys 7 q.1)=X/\QF.length<=1000 then Z (.aH<|en QF) else Y
 |_=>Y
def sX(i:b.calm=X)(k:b.A.units+30<bK):g8 b (.type "dict") ij:=by
 refine (Mv i k).imp λw j D l=>?_;let⟨I,@v,m,d,p⟩:=l;unfold ij at d;split at d
 ·rename_i f;let⟨@QF,n,a⟩:=bG.mp d;split at a
  ·rename_i c;cases a;let⟨@u,rfl,⟨W,q,@QJ,rfl,t,E,W⟩⟩:=f7 m;rw[G2 n]at E;refine⟨q,QJ,QF,rfl,t,Au (λp o=>iC.mp c.1 p o) E,c.2,λv QG e r=>?_⟩;have h:cQ j (upd j v<|.aH QG):=(cQ.refl j).upd e;exact p _ _ [v] h ⟨v,QG,rfl,fa,r.mono h.tupS.tup,rfl⟩ (eY _ _) λg s=>by rw[cK.mp s];exact e
  ·cases a
 ·cases d
end
section
variable{b:aJ}
def JK(Q1 t:b2):b2:=(λB j D=>∀q,j q=Y->Q1 B (upd j q<|.aH []) λf QB=>t B QB λH QN=>∃e n,f=.ref e/\hp QN n e/\QN q=Z (.aH [])/\D (.ref q) (upd QN q<|.aH [(n,H)]))
def Kg{Q1 t:b2}(ap:b.A.units+20<bK)(v:bN b n Q1)(x:bN b u t):bN b (.Dict [Z n] [u] QK) (JK Q1 t):=by
 intro Q h B j D G p;have y:=G.a0.fresh (a5 h.heap.objs.size);have z:=G.laid (g:=h.heap.objs.size) (o:=.aH []) (T:=h.heap.push {cls:=.type "dict",data:=.dict #[]}) (QZ:=h.toks) (λ_ W p=>b6 _ p) (a5 _) (Nq h.heap G.big);refine wpAny_Dict_any rfl rfl ↥0 ↥0 ?_;refine pairTrees_cons_walk (bU (v Q _ B _ _ z<|p _ y) λJ C ⟨f,QB,F,I,L⟩=>bU (x Q C B QB _ F L) λas M ⟨H,QN,a,N,e,m,Rh,d,c,P⟩=>pairTrees_nil_walk ?_);subst Rh;cases I;let@⟨k,R,⟨@w,i,S⟩⟩:=yO a.a0 c;cases i;unfold storeAll;rw[sj];refine av (av (C0 (k:=m) (knd:=d8 b.prog b.w) (show b.A.units+10<bK by lia) (l9 a.a0 d) S (λT U cn=>aS ?_)<|fo _));refine aS ⟨.ref h.heap.objs.size,_,?_,rfl,P⟩;let⟨q,Qs,@Rc,r,E,al,am,W,an⟩:=U;refine wc (h:=M) a (by rw[c];exact True.intro) cn ⟨q,r⟩ ⟨(show 1<=sizeLine by decide),R,_,fw.keeps (fw.put (QG:=[]) (w:=[]) .nil m (e:=e) d N) λa2 QJ s=>?_,q,Qs,Rc,r,E,al,am,an⟩;rw[cU (zy s c<|λk=>nomatch k)];exact s
@[simp] def tD(a b:ay ai):ay ai:=λy=>(a y).bind λq=>(b q.2).bind λp=>match q.1,p.1 with
 |.im (.tup n),.im v=>if V.keys 7 n=X then Z (.aH [(n,v)],p.2) else Y
 |_,_=>Y
def Bb{F G:ay ai}(S:b.A.units+20<bK)(U:cm b n F)(al:cm b u G):cm b (.Dict [Z n] [u] QK) (tD F G):=by
 refine er (Kg S U al) λB j D ⟨y,P,s,QQ,N,ao,am,p⟩ q m=>?_;let⟨@⟨Q_,QA⟩,t,E⟩:=bG.mp am;let⟨@⟨Rb,Q4⟩,an,k⟩:=bG.mp E;have h:cQ j (L2.upd j q<|.aH []):=(cQ.refl j).upd m;have I:q∉P:=λa=>by let⟨@o,d,W⟩:=N.chg q a;rw[m]at d;cases d
 refine⟨y,P,Q_,QA,N.mono h.tupS λg W o d=>h g o d,ao,t,λf QB z bn ap Q5 r=>?_⟩;have as:=dk.mp r.ao;refine⟨QA,z,Rb,Q4,ap,as.1,an,λH QN QV bS a1 Rd l=>?_⟩;dsimp only at k;split at k
 ·rename_i v bs;split at k
  ·rename_i a2;cases k;let@⟨bd,rfl⟩:=Q5;let@⟨be,rfl⟩:=Rd;rw[cC]at r l;have x:=r.seq l;have L:QB q=Z (.aH []):=r.keep q _ fa I;have M:q∉z:=λa=>by
    rcases r.sub q a with c|c
    ·exact I c
    ·rw[fa]at c;cases c
   have C:QN q=Z (.aH []):=l.keep q _ L M;have Q:q∉QV:=λa=>by
    rcases l.sub q a with c|c
    ·exact M c
    ·rw[L]at c;cases c
   let⟨e,@w,rfl,Q0,Q6⟩:=(show cq QN (.tup v) f from bd.mono l.tup.tup);refine⟨e,v,rfl,⟨a2,e,w,rfl,Q0,Q6⟩,C,?_⟩;have iL:fM QN (L2.upd QN q<|.aH [(v,H)]):=fM.of (λg w d=>by
    have:g≠q:=λa=>by subst a;rw[C]at d;cases d
    rw[cU this];exact d) λg o J d=>by
    have:g≠q:=λa=>by subst a;rw[C]at d;cases d
    rw[cU this];exact d
   refine p _ _ QV [q] (a1.mono iL λg i o d=>by
    have ne:g≠q:=λa=>by subst a;exact Q i
    rw[cU ne];exact d) ⟨q,[(v,H)],rfl,fa,.cons ⟨rfl,be.mono iL.tup⟩ .nil,rfl⟩ ?_
   refine⟨λg o d i=>?_,λg i=>?_,?_,?_,λg o d=>?_⟩
   ·have:g≠q:=λa=>by subst a;rw[m]at d;cases d
    rw[cU this];exact x.keep g o (by rw[cU this];exact d) i
   ·rcases dG.mp i with c|c
    ·rcases x.sub g c with T|T
     ·exact .inl T
     ·by_cases d:g=q
      ·exact .inr (d ▸ m)
      ·rw[cU d]at T;exact .inr T
    ·exact .inr (by rw[cK.mp c];exact m)
   ·exact dk.mpr ⟨l.ao,eY _ _,λg i e bi d=>Q (by rw[cK.mp bi]at d;rw[<-d];exact i)⟩
   ·exact (h.tupS.trans x.tup).trans iL
   ·by_cases a:g=q
    ·exact⟨_,by rw[a];exact fa⟩
    ·let⟨@R,bm⟩:=x.grow g o (by rw[cU a];exact d);exact⟨R,by rw[cU a];exact bm⟩
  ·cases k
 ·cases k
end
def H_:String->bq:=((⟨_,rfl⟩:{C:String->bq // C "max" = bq.«max» }).1)
def Np:String->jR->bq:=((⟨_,rfl⟩:{C:String->jR->bq // C "max" .Gt=bq.«max.loop» }).1)
section
variable{Qy:bz}{l:bc}{O:bl}{Qt:ae->ah->Prop}{h:ah}
def zo{x k:String}{Q8:jR}(p:(toString x++toString ".loop" : String)=k)(al:builtinKind x=Y)(am:plainId x=X)(an:vR table x=Z (H_ x))(ap:∀g e:ae,argsOk x ⟨[g,e],[]⟩)(a:plainId k=X)(r:vR table k=Z (Np x Q8)){g e:ae}{n:Bool}{D:ae->ah->Prop}(as:O.handled=Y)(a1:∀Qp:ah,(∀m o,h.heap.get? m=Z o->Qp.heap.get? m=Z o)->∀(D:ae->ah->Prop) (Qt:ae->ah->Prop),D (.bool n) Qp->wpAny (aO Qy l) O.in1 (nh Q8 e g) D Qt Qp)(c:∀T Q1,(∀m o,h.heap.get? m=Z o->T.get? m=Z o)->D (if n=X then e else g) {h with heap:=T,toks:=Q1}):wpAny (aO Qy l) O (call (.builtin x) [g,e]) D Qt h:=by
 refine call_function_tree al am an (ap _ _) ?_;show wpAny _ O.in1 (bq.Builtins.bindParams x ["key","default"] 0 ⟨[],[]⟩ >>= _) _ _ h;refine av (qe (show bq.Builtins.bindParams x ["key","default"] 0 ⟨[],[]⟩=pure [Y,Y] from rfl) ?_);show wpAny _ O.in1 (xi [g,e] >>= _) _ _ h;refine av (hJ ?_);have B:(h.heap.push {cls:=.type "tuple",data:=.seq #[g,e]}).IsTuple h.heap.objs.size #[g,e]:=⟨_,c_ _ rfl,rfl,0,rfl⟩;refine av (wpAny_pyIter_tuple B<|av<|hJ ?_);have q:(h.heap.push {cls:=.type "tuple",data:=.seq #[g,e]}).objs.size=h.heap.objs.size+1:=my ..;have W:=kM.tuple (prog:=Qy) (w:=l) (A:=O.in1) as (h.heap.push {cls:=.type "tuple",data:=.seq #[g,e]}).objs.size h.heap.objs.size (by rw[q];exact c1 (oC _)) #[g,e];rw[p];refine aS ⟨jv a _,?_⟩;have s:((h.heap.push {cls:=.type "tuple",data:=.seq #[g,e]}).push {cls:=.type "tuple_iterator",data:=.fields #[.ref h.heap.objs.size,.int 0 0]}).IsTupleIter (h.heap.push {cls:=.type "tuple",data:=.seq #[g,e]}).objs.size h.heap.objs.size 0:=⟨_,c_ _ rfl,rfl,rfl⟩;have C:=B.push {cls:=.type "tuple_iterator",data:=.fields #[.ref h.heap.objs.size,.int 0 0]};have v:((h.heap.push {cls:=.type "tuple",data:=.seq #[g,e]}).push {cls:=.type "tuple_iterator",data:=.fields #[.ref h.heap.objs.size,.int 0 0]}).objs.size=h.heap.objs.size+2:=by rw[my,q]
 have da:∀m o,h.heap.get? m=Z o->((h.heap.push {cls:=.type "tuple",data:=.seq #[g,e]}).push {cls:=.type "tuple_iterator",data:=.fields #[.ref h.heap.objs.size,.int 0 0]}).get? m=Z o:=λm o d=>b6 _ (b6 _ d);rw[q]at W s;rw[q,v];generalize ce:((h.heap.push {cls:=.type "tuple",data:=.seq #[g,e]}).push {cls:=.type "tuple_iterator",data:=.fields #[.ref h.heap.objs.size,.int 0 0]})=g2 at s C v da ⊢;have F:(g2.push {cls:=.type "list",data:=.seq ([]:List ae).toArray}).get? (h.heap.objs.size+2)=Z {cls:=.type "list",data:=.seq ([]:List ae).toArray}:=by rw[<-v];exact c_ _ rfl
 have w:h.heap.objs.size+2∉[h.heap.objs.size+1]:=by simp
 have G:∀m∈[h.heap.objs.size+1,h.heap.objs.size],h.heap.objs.size+2≠m:=λm b f=>by
  simp only[cu,mJ,kJ]at b;rcases b with d|d
  ·rw[d]at f;exact absurd f (ng<|oC _)
  ·rw[d]at f;exact absurd f (ng (EV ∅))
 have i:∀m o,h.heap.get? m=Z o->m∉[h.heap.objs.size+1]/\m≠h.heap.objs.size+2:=λm o d=>by
  have lt:=b1 d;refine⟨λf=>?_,c1<|e5 lt<|l8 _ _⟩;rw[cK.mp f]at lt;exact jU _ (Nat.lt_of_succ_lt lt)
 have H:∀(T:aV) (Q1:Nat) (j:ae) (I:Nat),(∀m o,h.heap.get? m=Z o->T.get? m=Z o)->T.get? (h.heap.objs.size+2)=Z {cls:=.type "list",dict:=Y,data:=.seq #[j,j] I,slots:=#[]}->
   T.IsTupleIter (h.heap.objs.size+1) h.heap.objs.size 2/\T.IsTuple h.heap.objs.size #[g,e]->j=(if n=X then e else g)->
   codeAny (aO Qy l) O (.builtin k ⟨[.ref (h.heap.objs.size+1),.none,.ref<|h.heap.objs.size+2],[]⟩) (wants D Qt) {h with heap:=T,toks:=Q1}:=by
  intro T Q1 j I Q0 J N a2;refine iQ r ?_;rw[je a _];show wpAny _ O.in1 (oW (.ref<|h.heap.objs.size+2) >>= _) _ _ _;refine av (hj (s:={h with heap:=T,toks:=Q1}) J rfl ?_);show wpAny _ O.in1 (tryCatch (gC<|.ref<|h.heap.objs.size+1) _ >>= _) _ _ _;refine av (pG<|W.done {h with heap:=T,toks:=Q1} _ _ N λE bd L=>?_);have be:=L _ _ w J;show wpAny _ O.in1 (updateSeq (h.heap.objs.size+2) (λ_=>#[]) >>= _) _ _ _;refine av (xw be rfl<|av<|mZ<|aS ?_);show D j _;rw[a2];exact c _ bd λm o d=>(j9 _ _<|fP (i m o d).2).trans (L m o (i m o d).1 (Q0 m o d))
 refine iQ r ?_;rw[je a _];show wpAny _ O.in1 (oW (.ref<|h.heap.objs.size+2) >>= _) _ _ _;refine av (hj (s:={h with heap:=g2.push {cls:=.type "list",data:=.seq ([]:List ae).toArray} }) F rfl ?_);show wpAny _ O.in1 (tryCatch (gC<|.ref<|h.heap.objs.size+1) _ >>= _) _ _ _;refine av (pG (W.item 0 {h with heap:=g2.push {cls:=.type "list",data:=.seq ([]:List ae).toArray} } _ _ ↥0 ⟨let ⟨o,bi,bm⟩:=s;⟨o,b6 _ bi,bm⟩,C.push _⟩ λu t ch y bn Q0=>?_));cases y;have M:=Q0 _ _ w F;show wpAny _ O.in1 (updateSeq (h.heap.objs.size+2) (λ_=>#[g,g]) >>= _) _ _ _;refine av (xw M rfl ?_);rw[p];refine aS ⟨jv a _,iQ r ?_⟩;have P:=oK (a3.mapSeq<|λ_=>(#[g,g]:Array ae)) M rfl;have bs:=W.frame _ _ (t.update (h.heap.objs.size+2)<|a3.mapSeq<|λ_=>(#[g,g]:Array ae)) bn λm b o d=>(j9 _ _<|G m b).trans d;have bv:∀m o,h.heap.get? m=Z o->(t.update (h.heap.objs.size+2)<|a3.mapSeq<|λ_=>(#[g,g]:Array ae)).get? m=Z o:=λm o d=>(j9 _ _<|fP (i m o d).2).trans (Q0 m o (i m o d).1 (b6 _<|da m o d));rw[je a _];show wpAny _ O.in1 (oW (.ref<|h.heap.objs.size+2) >>= _) _ _ _;refine av (hj P rfl ?_);show wpAny _ O.in1 (tryCatch (gC<|.ref<|h.heap.objs.size+1) _ >>= _) _ _ _;refine av (pG (W.item 1 _ _ _ ↥0 bs λu ca Q y R S=>?_));cases y;have z:=S _ _ w P;have A:∀m o,h.heap.get? m=Z o->ca.get? m=Z o:=λm o d=>S m o (i m o d).1 (bv m o d);show wpAny _ O.in1 (tryCatch (holding [e,e]<|nh Q8 e g >>= _) _ >>= _) _ _ _;refine av (pG<|fc<|av<|a1 _ A _ _ ?_);refine av (fc<|lx ?_);refine av (mZ<|aS ?_);cases U:n with
 |true=>
  simp only[gv];refine av (xw z rfl<|av<|mZ ?_);rw[p];have cd:=oK (a3.mapSeq<|λ_=>(#[e,e]:Array ae)) z rfl;refine aS ⟨jv a _,H _ Q e _ (λm o d=>(j9 _ _<|fP (i m o d).2).trans<|A m o d) cd (W.frame _ _ _ R λm b o d=>(j9 _ _<|G m b).trans d) (by rw[U];rfl)⟩
 |false=>
  simp only[gu,e1];refine av (mZ ?_);rw[p];exact aS ⟨jv a _,H _ Q g _ A z R (by rw[U];rfl)⟩
end
section
variable{Qy:bz}{l:bc}{O:bl}{Qt:ae->ah->Prop}{h:ah}{g e:ae}{n:Bool}{D:ae->ah->Prop}
def OM(a:O.handled=Y)(b:∀Qp:ah,(∀m o,h.heap.get? m=Z o->Qp.heap.get? m=Z o)->∀(D:ae->ah->Prop) (Qt:ae->ah->Prop),D (.bool n) Qp->wpAny (aO Qy l) O.in1 (nh .Gt e g) D Qt Qp)(c:∀T Q1,(∀m o,h.heap.get? m=Z o->T.get? m=Z o)->D (if n=X then e else g) {h with heap:=T,toks:=Q1}):wpAny (aO Qy l) O (call (.builtin "max") [g,e]) D Qt h:=
 zo ∅ F.kind_max F.plain_max F.entry_max F.args_max2 F.plain_max_loop F.entry_max_loop a b c
def LU(a:O.handled=Y)(b:∀Qp:ah,(∀m o,h.heap.get? m=Z o->Qp.heap.get? m=Z o)->∀(D:ae->ah->Prop) (Qt:ae->ah->Prop),D (.bool n) Qp->wpAny (aO Qy l) O.in1 (nh .Lt e g) D Qt Qp)(c:∀T Q1,(∀m o,h.heap.get? m=Z o->T.get? m=Z o)->D (if n=X then e else g) {h with heap:=T,toks:=Q1}):wpAny (aO Qy l) O (call (.builtin "min") [g,e]) D Qt h:=
 zo ∅ F.kind_min F.plain_min F.entry_min F.args_min2 F.plain_min_loop F.entry_min_loop a b c
end
def xU(O:bl)(h:ah)(H f:ae)(n:Bool):Prop:=(∀(Qy:bz) (l:bc) (Qt:ae->ah->Prop) (D:ae->ah->Prop),D (.bool n) h->wpAny (aO Qy l) O (nh .Gt H f) D Qt h)
section
open PySem.SeqAt
open PySem.AutoSeq1 (wpAny_loadPart')
open PySem.MeetsSeq PySem.MeetsSeq2 PySem.MeetsSeq3
def NL(x e:ak)(QL b:Array ae)(r z:Nat)(A B:Option ak)(aU C:Array (Option ae))(QF:List (Bool×Bool))(R:QF.length=min QL.size b.size):
  Meets (bq.«tuple.__gt__» ⟨[.ref x,.ref e],[]⟩)
   (λO Qu h=>h.heap.get? x=Z {cls:=.type "tuple",dict:=A,data:=.seq QL r,slots:=aU}/\h.heap.get? e=Z {cls:=.type "tuple",dict:=B,data:=.seq b z,slots:=C}/\
    (∀i (t:i<QL.size) (E:i<b.size) (o:i<QF.length),EqAt O.in1 h QL[i] b[i] (QF[i]).1/\((QF[i]).1=aq->xU O.in1 h QL[i] b[i] (QF[i]).2))/\
    Qu (.ok<|.ret<|.bool<|hx (decide (b.size<QL.size)) QF) h):=
 .of_wp λQy l O Qu h c=>by
  let⟨k,L,v,Q1,M⟩:=h;let@⟨D,F,G,c⟩:=c;have S:=Ef;have q:(QL.toList.zip b.toList).length=min QL.size b.size:=by simp
  wp_walk using wpAny_loadPart' D,wpAny_loadPart' F,m_ _ (λcM e Qp=>e.1=Y/\Qp=⟨k,L,v,Q1,M⟩/\∃a,cM=(QL.toList.zip b.toList).drop a/\
   Qu (.ok<|.ret<|.bool<|hx (decide (b.size<QL.size))<|QF.drop a) ⟨k,L,v,Q1,M⟩) _
  case turn=>
   rintro⟨H,f⟩ cM e Qp ⟨p,rfl,a,g,j⟩;have s:a<(QL.toList.zip b.toList).length:=by
    rcases e4 a (QL.toList.zip b.toList).length with T|T
    ·exact T
    ·rw[mR T]at g;cases g
   have U:a<min QL.size b.size:=q ▸ s;have t:a<QL.size:=⋯
   have E:a<b.size:=⋯
   have o:a<QF.length:=⋯
   rw[iE s]at g;injection g with u I;have J:H=QL[a]:=by have:=congrArg Prod.fst u;simpa using this
   have N:f=b[a]:=by have:=congrArg Prod.snd u;simpa using this
   subst J N;rw[iE o]at j;let@⟨w,y⟩:=G a t E o;generalize QF[a]=P at j w y;let⟨d,n⟩:=P;refine av (w Qy l _ _ ?_);cases d with
   |true=>
    have m:Qu (.ok<|.ret<|.bool<|hx (decide (b.size<QL.size))<|QF.drop<|a+1) ⟨k,L,v,Q1,M⟩:=j
    wp_walk
    exact⟨rfl,rfl,a+1,I,m⟩
   |false=>
    have m:Qu (.ok<|.ret<|.bool n) ⟨k,L,v,Q1,M⟩:=j;have Q:=y rfl Qy l
    wp_walk using Q
    exact⟨_,rfl,by simpa using m⟩
  case fin=>
   rintro⟨dV,dg⟩ Qp ⟨p,rfl,a,g,j⟩;simp only at p;subst p;have al:min QL.size b.size<=a:=by
    rcases e4 a (QL.toList.zip b.toList).length with T|T
    ·rw[iE T]at g;cases g
    ·exact q ▸ T
   rw[mR ⋯]at j;have m:Qu (.ok<|.ret<|.bool<|decide (b.size<QL.size)) ⟨k,L,v,Q1,M⟩:=j
   wp_walk
   exact⟨_,rfl,by simpa [bq.Tuple.tupleCompareSizes] using m⟩
  case h=>
   exact⟨rfl,rfl,0,rfl,by simpa using c⟩
end
def ke(I Qs:List V):List (Bool×Bool):=((I.zip Qs).map λq=>(cf q.1 q.2,bF q.2 q.1))
def IK(g e:V):V.beq g e=V.beq e g:=by
 rw[p0,V.beq_iff,V.beq_iff];exact⟨λc=>c.symm,λc=>c.symm⟩
theorem CG:∀{r:Nat}{I Qs:List V},fl r I Qs=X->hx (decide (Qs.length<I.length)) (ke I Qs)=fO Qs I
 |_,[],[],_=>rfl
 |r,g::s,e::A,c=>by
  rw[fl,cI]at c;show (if cf g e=X then hx (decide (A.length+1<s.length+1)) (ke s A) else bF e g)=fO (e::A) (g::s);rw[fO,(o5 c.1).2.2,<-CG c.2,IK,vW.mpr w9]
 |_,[],_::_,_=>rfl
 |_,_::_,[],_=>rfl
def BK{O:bl}{a i:Int}{J u:ae}(b:dr h.heap (.int a) J)(c:dr h.heap (.int i) u):xU O h J u (bF (.int i)<|.int a):=by
 let⟨@A,rfl⟩:=b;let⟨@QZ,rfl⟩:=c;intro Qy l Qt D p;rw[bF]at p;exact (F4 p:wpAny (aO Qy l) O (dY .Gt (.int a A)<|.int i QZ) D Qt h)
def zL(r:Nat):∀{O:bl}{f H:V}{J u:ae},eM r f H=X->O.units+r+2<bK->dr h.heap f J->dr h.heap H u->xU O h J u (bF H f):=by
 induction r with
 |zero=>
  intro O f H J u c G b j;rcases rm c with ⟨a,i,rfl,rfl⟩|⟨k,_,_,d,_⟩
  ·exact BK b j
  ·cases d
 |succ r L=>
  intro O f H J u c G b j;rcases rm c with ⟨a,i,rfl,rfl⟩|⟨k,I,Qs,d,rfl,rfl,c⟩
  ·exact BK b j
  cases d;let⟨g,o,QD,@k,rfl,t,E,m,n⟩:=b;let⟨e,R,y,@M,rfl,q,s,v,w⟩:=j;let⟨cls,N,data,aU⟩:=o;let⟨ap,Q,as,S⟩:=R;simp only at E m s v;subst E m s v;have aZ:I.length=QD.size:=by rw[n.length,dp]
  have bh:Qs.length=y.size:=by rw[w.length,dp]
  intro Qy l Qt D p;rw[bF,<-CG c,aZ,bh]at p;have T:(ke I Qs).length=min QD.size y.size:=by rw[ke,bj,xW,aZ,bh]
  refine zZ (op:=.Gt) ⟨_,t,rfl⟩ ⟨_,q,rfl⟩ PySem.F.slot_tuple_gt PySem.F.entry_tuple_gt (PySem.F.args_tuple_gt_2 _ _) (NL g e QD y k M N Q aU S (ke I Qs) T)
   ⟨t,q,λi U al am=>?_,show ae.bool (hx (decide (y.size<QD.size))<|ke I Qs)≠ae.notImplemented/\D (.bool<|hx (decide (y.size<QD.size))<|ke I Qs) h from ⟨(λf=>nomatch f),p⟩⟩ ⋯;let⟨@Q_,x,z⟩:=n.get (i:=i) (u:=QD[i]) (by rw[eE];simp[U]);let⟨@Rb,A,B⟩:=w.get (i:=i) (u:=y[i]) (by rw[eE];simp[al]);have lk:=u2 c x A;have C:=o5 lk;have an:(ke I Qs)[i]=(cf Q_ Rb,bF Rb Q_):=by
   have:(ke I Qs)[i]?=Z (cf Q_ Rb,bF Rb Q_):=by
    rw[ke,eH,(t7 (z:=(Q_,Rb))).mpr ⟨x,A⟩];rfl
   rw[eb am]at this;exact Option.some.inj this
  rw[an];exact⟨iq r C.1 C.2.1 (by show O.units+1+r+1<bK;lia) z B,λ_=>L lk (by show O.units+1+r+2<bK;lia) z B⟩
section
variable{b:aJ}
def LH(f:b.calm=X)(k:b.A.units+20<bK):ep b (.builtin "max") (λw j D=>∃(v d:V) (u J:af),w=[u,J]/\eM 6 d v=X/\cq j v u/\cq j d J/\D (if bF v d=X then J else u) j):=by
 intro Q h B j w QR D G s c;let⟨v,d,u,@J,rfl,lk,t,E,p⟩:=c;let⟨m,@q,rfl,a,e⟩:=p6 s;refine OM (n:=bF v d) (G.ok.hd f) (λQp n D Qt i=>?_) λT Q1 n=>⟨if bF v d=X then J else u,j,G.kept n,?_,p⟩
 ·exact zL 6 lk (by show b.A.units+1+6+2<bK;lia) ((E.eJ G.a0 e).keep λg o W W d W W=>n g o d) ((t.eJ G.a0 a).keep λg o W W d W W=>n g o d) b.prog b.w Qt D i
 ·split
  ·exact e
  ·exact a
def O1(f:b.calm=X)(k:b.A.units+20<bK):ep b (.builtin "min") (λw j D=>∃(v d:V) (u J:af),w=[u,J]/\eM 6 d v=X/\cq j v u/\cq j d J/\D (if bF d v=X then J else u) j):=by
 intro Q h B j w QR D G s c;let⟨v,d,u,@J,rfl,lk,t,E,p⟩:=c;let⟨m,@q,rfl,a,e⟩:=p6 s;refine LU (n:=bF d v) (G.ok.hd f) (λQp n D Qt i=>?_) λT Q1 n=>⟨if bF d v=X then J else u,j,G.kept n,?_,p⟩
 ·exact A2 6 lk (by show b.A.units+1+6+2<bK;lia) ((E.eJ G.a0 e).keep λg o W W d W W=>n g o d) ((t.eJ G.a0 a).keep λg o W W d W W=>n g o d) b.prog b.w Qt D i
 ·split
  ·exact e
  ·exact a
def qn:h6:=(λI=>match I with
 |[.im (.int a),.im<|.int i]=>yA [.im (.int a),.im<|.int i]
 |[.im (.tup g),.im<|.tup e]=>if eM 6 (.tup e) (.tup g)=X then Z (.im<|if bF (.tup g) (.tup e)=X then .tup e else .tup g) else Y
 |_=>Y)
def qp:h6:=(λI=>match I with
 |[.im (.int a),.im<|.int i]=>xy [.im (.int a),.im<|.int i]
 |[.im (.tup g),.im<|.tup e]=>if eM 6 (.tup e) (.tup g)=X then Z (.im<|if bF (.tup e) (.tup g)=X then .tup e else .tup g) else Y
 |_=>Y)
def F9(c:b.calm=X)(k:b.A.units+20<bK):g8 b (.builtin "max") qn:=by
 intro Q h B j w QR D G s l;let⟨I,@v,f,d,p⟩:=l;unfold qn at d;split at d
 ·exact GU c Q h B j w QR D G s ⟨_,v,f,d,p⟩
 ·split at d
  ·rename_i g e lk;cases d;let⟨u,@J,rfl,t,E⟩:=x7 f;refine LH c k Q h B j _ QR D G s ⟨_,_,u,J,rfl,lk,t,E,b5.i p ?_⟩;split
   ·exact E
   ·exact t
  ·cases d
 ·cases d
def Mh(c:b.calm=X)(k:b.A.units+20<bK):g8 b (.builtin "min") qp:=by
 intro Q h B j w QR D G s l;let⟨I,@v,f,d,p⟩:=l;unfold qp at d;split at d
 ·exact Kn c Q h B j w QR D G s ⟨_,v,f,d,p⟩
 ·split at d
  ·rename_i g e lk;cases d;let⟨u,@J,rfl,t,E⟩:=x7 f;refine O1 c k Q h B j _ QR D G s ⟨_,_,u,J,rfl,lk,t,E,b5.i p ?_⟩;split
   ·exact E
   ·exact t
  ·cases d
 ·cases d
end
mutual
def s9:V->qA
 |.int a=>.int a
 |.ax e=>.bool e
 |.str f=>.str f
 |.tup I=>.tuple (qW I)
 |_=>.none
def qW:List V->List qA
 |[]=>[]
 |v::s=>s9 v::qW s
end
mutual
theorem KG{c:aV}:∀{r:Nat}{v:V}{J:ae},V.bo r v=X->dr c v J->Reads c J (s9 v) []
 |_,.aT,J,_,d=>by cases (show J=.none from d);exact .none
 |_,.ax e,J,_,d=>by cases (show J=.bool e from d);exact .bool e
 |_,.int a,J,_,d=>by let⟨@A,rfl⟩:=d;exact .int a A
 |_,.str f,J,_,d=>by let⟨@A,rfl⟩:=d;exact .str f A
 |r+1,.tup I,J,n,d=>by
  let⟨g,o,QL,@k,rfl,t,E,b,h⟩:=d;exact .tuple t E b (zU (r:=r) n h)
 |0,.tup I,J,n,d=>by cases n
 |r,.fn g,J,n,d=>by cases r<;>cases n
 |r,.aR g,J,n,d=>by cases r<;>cases n
 |r,.fd,J,n,d=>by cases r<;>cases n
theorem zU{c:aV}:∀{r:Nat}{I:List V}{QR:List ae},V.ck r I=X->du c I QR->ReadsAll c QR (qW I) []
 |_,[],QR,_,d=>by rw[show QR=[] from d];exact .nil
 |r,v::I,QR,n,d=>by
  let⟨u,@s,rfl,t,E⟩:=d;rw[V.ck,cI]at n;exact .cons (KG n.1 t) (zU n.2 E)
end
mutual
theorem Ge:∀v:V,qA.hasDict (s9 v)=aq
 |.aT=>rfl
 |.ax _=>rfl
 |.int _=>rfl
 |.str _=>rfl
 |.fn _=>rfl
 |.aR _=>rfl
 |.fd=>rfl
 |.tup I=>DT I
theorem DT:∀I:List V,qA.hasDictAll (qW I)=aq
 |[]=>rfl
 |v::s=>by
  show (qA.hasDict (s9 v) || PyData.hasDictAll (qW s))=aq;rw[Ge v,DT s];rfl
end
section
variable{Qy:bz}{l:bc}{O:bl}{Qt:ae->ah->Prop}{h:ah}
theorem CB{it A:ak}{QL:Array ae}(d:A≠it):∀(r a:Nat) (h:ah) (D:List ae->ah->Prop),h.heap.IsListIter it A a->h.heap.IsList A QL->a+r<=QL.size->
  (∀T,T.IsListIter it A (a+r)->aV.SameBut it h.heap T->D ((QL.toList.drop a).take r) {h with heap:=T})->wpAny (aO Qy l) O (draw (.ref it) r) D Qt h
 |0,a,h,D,b,_,_,c=>by
  show wpAny _ _ (pure []) D Qt h;exact aS ⇑(c h.heap b (aV.SameBut.refl ..))
 |r+1,a,h,D,b,bf,o,c=>by
  have e:a<QL.size:=⋯
  show wpAny _ _ (gC (.ref it) >>= _) D Qt h;refine av (CD b bf (x:=QL[a]) (by simp[e]) λp i g=>?_);refine av (fc (CB d r (a+1) _ _ i (bf.extBut g.extBut d) ⋯ λj k m=>aS ?_));have n:QL.toList.drop a=QL[a]::QL.toList.drop (a+1):=by simp[iE,e]
  have:=c j (by rw[show a+(r+1)=a+1+r by lia];exact k) (g.trans m);rw[n,List.take_succ_cons]at this;exact this
def MG{D:List ae->ah->Prop}(f:O.handled=Y)(bf:h.heap.IsList A QL)(g:∀T,aV.ExtBut h.heap.objs.size h.heap T->D QL.toList {h with heap:=T}):wpAny (aO Qy l) O (unpackItems (.ref A) QL.size Y) D Qt h:=by
 have a:A≠h.heap.objs.size:=by let⟨@o,i,W⟩:=bf;exact c1 (b1 i)
 unfold unpackItems;refine av ?_
 ·unfold notIterableAtAll;refine av (nA bf.typeIs F.slot_list_iter.lookup ?_);refine aS ?_;simp only[gu,e1];refine av (fc<|rr bf ?_);refine av (fc (CB a QL.size 0 _ _ ⟨_,c_ _ rfl,rfl,rfl⟩ (bf.push _) ⋯ λj k b=>?_));have m:List.take QL.size (List.drop 0 QL.toList)=QL.toList:=by
   rw[kh];exact qM ↥0
  rw[m];rw[aK ↥0];have n:j.IsList A QL:=(bf.push _).extBut b.extBut a;refine av (fc (CQ f k n ↥0 λp q=>?_));simp only[Option.isSome_none,gu,e1];refine aS (g p λe o c d=>q e o c<|b.extBut e o c<|b6 _ d)
def Me{Qv:eA}{a:List bk}{b}{D:Unit->ah->Prop}(d:O.handled=Y)(bf:h.heap.IsList A QL)(e:(eV a Qv).length=QL.size)(f:(eV a Qv).findIdx? (·.1)=Y)(c:∀T,aV.ExtBut h.heap.objs.size h.heap T->wpAny (aO Qy l) O (Bl ((eV a Qv).map (·.2)) QL.toList) D Qt {h with heap:=T}):
  wpAny (aO Qy l) O (hC (.Tuple a b QK) Qv<|.ref A) D Qt h:=by
 rw[assign_Tuple];refine av (sU ?_);unfold unpack;rw[e,f];exact av (fc<|MG d bf c)
end
section
variable{b:aJ}
def Kz(Qw:Φ)(r:Nat)(A:iR):fV:=(λu B j D=>∃g w,u=.ref g/\cT Qw j g w/\w.length=r/\A w B j D)
variable{n:Nat}
def JP{A:iR}(i:b.calm=X)(c:nx b Qs A)(k:(eV Qs b.env).length=r:=by rfl)(l:(eV Qs b.env).findIdx? (·.1)=Y:=by rfl):iD b (.Tuple Qs n QK) (Kz b.K r A):=by
 intro Q h B j u J D G s a;let⟨g,@w,m,p,q,a⟩:=a;subst m;cases s;let⟨@QD,f,bf,x⟩:=G.list p;refine Me (G.ok.hd i) bf.isList (by simp[k,<-q,f.length]) l λT t=>?_;have v:aA b Q B j {h with heap:=T}:=G.kept (QZ:=h.toks) λe o d=>t e o (c1<|b1 d) d;exact c Q _ B j w _ D v ⇑f a
@[simp] def rW(r:Nat)(c:List ai->a6->Option a6):fg:=λv y=>match v with
 |.lst is=>if is.length=r then c (is.map .im) y else Y
 |_=>Y
def J9{QX:List Nat}{c:List ai->a6->Option a6}(k:b.calm=X)(Qx:q3 b QX Qs c)(l:(eV Qs b.env).length=r:=by rfl)(m:(eV Qs b.env).findIdx? (·.1)=Y:=by rfl):gS b QX (.Tuple Qs n QK) (rW r c):=by
 refine s8 (JP k Qx l m) λu B j D q=>?_;let⟨y,P,v,Qu,@QQ,N,QU,ao,a,p⟩:=q;unfold rW at a;split at a
 ·rename_i is;split at a
  ·rename_i s;let⟨g,@w,rfl,t,E,rfl⟩:=QU;have x:=dk.mp ao;refine⟨g,w,rfl,cT.of t,by rw[<-E.length];exact s,y,P,_,[],QQ,N,v9 E,by rw[cC];exact x.1,a,λz F Q3 Ri A h=>p z F Q3 Ri A ?_⟩;rw[cC]at h;exact⟨λe o d f=>h.keep e o d λi=>f<|dO _ i,λe f=>(h.sub e f).imp (λi=>dO _ i) id,h.ao,h.tup,h.grow⟩
  ·cases a
 ·cases a
end
end L2
namespace G
open L2
variable{U D B P I L Rd Q5 b Q7:Option ai}{l k:Int}{R QC:List (Int×Int)}{m e g:Int×Int}{n:List V}{QG:List (List V×V)}{c:ai}{r:Nat}
def nL:bP:=((bV 2<|az g7 (ag<|az eo (ag<|az eo (ag<|az hZ (aj 2)<|ag<|aC<|.int 69621)<|ag<|az g7 (aj 3)<|ag<|aC<|.int 2147483587)<|ag<|aC<|.int 13)<|ag<|aC<|.int 2305843009213693951))
def E4:bP:=((bC (bV 2<|az eo (ag<|aC<|.int 7)<|ag<|az hZ (ag<|aC<|.int 7919)<|aj 1)<|bC (f9 (cN<|ag<|j4 (aj 0) lJ<|kr<|aC<|.int 63) (bH 3) G.nL)<|bC (bV 3<|wU (bu<|az oa (ag<|b9 dy<|ar (aj 0) aF)<|ag<|aC<|.int 0) (az bD (aj 0)<|ag<|az g7 (aj 1)<|ag<|b9 dy<|ar (aj 0) aF)<|aC<|.int 0)<|bC (bV 4<|az hZ (ag<|az hZ (ag<|az rf (ag<|aC<|.int 10)<|ag<|aC<|.int 60)<|ag<|az rf (ag<|aC<|.int 10)<|ag<|aC<|.int 60)<|ag<|az rf (ag<|aC<|.int 10)<|ag<|aC<|.int 60)<|c8<|eu<|ar (ag<|az hZ (ag<|az g7 (aj 3)<|aj 4)<|ag<|b9 vInt<|ar (ag<|az EZ (aj 3)<|ag<|az rf (ag<|aC<|.int 10)<|ag<|aC<|.int 18) aF)<|ar (aj 2)<|ar (ag<|aC<|.int 0) aF))
def o3:dH:=(d1 2 5 [0,1] E4)
def uU:bP:=((bC (df (bu<|az oa (ag<|az bD (aj 0)<|ag<|aC<|.int 0)<|ag<|aC<|.int 0) (bC (bV 2<|az g7 (ag<|az bD (aj 0)<|ag<|aC<|.int 0)<|aj 1)<|bC (h9 (az lz (ag<|az bD (aj 0)<|ag<|aC<|.int 0)<|aj 1)<|kb 0 (aC<|.int 0) ow)<|c8<|fh 2) d6)<|bC (h9 (az eo (ag<|az bD (aj 0)<|ag<|aC<|.int 2)<|ag<|aC<|.int 1)<|kb 0 (aC<|.int 2) ow)<|bC (bV 3<|az g7 (ag<|az hZ (ag<|az eo (ag<|az bD (aj 0)<|ag<|aC<|.int 1)<|ag<|az hZ (ag<|az bD (aj 0)<|ag<|aC<|.int 2)<|ag<|aC<|.int 104729)<|ag<|aC<|.int 48271)<|ag<|aC<|.int 2305843009213693951)<|bC (h9 (az g7 (ag<|az hZ (aj 3)<|ag<|az eo (ag<|az g7 (aj 3)<|ag<|aC<|.int 1009)<|ag<|aC<|.int 69621)<|ag<|aC<|.int 2305843009213693951)<|kb 0 (aC<|.int 1) ow)<|c8<|az g7 (ag<|az lz (ag<|az bD (aj 0)<|ag<|aC<|.int 1)<|ag<|aC<|.int 1000003)<|aj 1))
def fA:dH:=(d1 2 4 [0,1] uU)
def DG:bP:=((c8<|eu<|ar (ag<|dA<|ar (ag<|az mL (ag<|az bD (aj 0)<|ag<|aC<|.int 0)<|ag<|aC<|.int 1)<|ar (ag<|az bD (aj 0)<|ag<|aC<|.int 1) aF)<|ar (ag<|dA<|ar (ag<|az bD (aj 0)<|ag<|aC<|.int 0)<|ar (ag<|az mL (ag<|az bD (aj 0)<|ag<|aC<|.int 1)<|ag<|aC<|.int 1) aF)<|ar (ag<|dA<|ar (ag<|az bD (aj 0)<|ag<|aC<|.int 0)<|ar (ag<|az eo (ag<|az bD (aj 0)<|ag<|aC<|.int 1)<|ag<|aC<|.int 1) aF)<|ar (ag<|dA<|ar (ag<|az eo (ag<|az bD (aj 0)<|ag<|aC<|.int 0)<|ag<|aC<|.int 1)<|ar (ag<|az bD (aj 0)<|ag<|aC<|.int 1) aF) aF))
def k2:dH:=(d1 1 1 [0] DG)
def n_:ay ai:=((dA<|ar (aj 0)<|ar (ag<|aC<|.ax X) aF))
def h8:bP:=((df (fu (bu<|az ha (aj 5)<|aj 2)<|bu<|az fE (aj 5)<|aj 3) (bC (h9 (aC<|.ax X)<|kb 3 (fh 5) jy)<|kc<|hb hO 4 lr<|ar (aj 5) aF) d6))
def pq:ay Bool:=((bu<|az eB (aj 4)<|ag<|eu aF))
def p_:bP:=((f9 (cN<|ag<|bT 1 G.k2<|ar (ag<|hb hO 4 rb aF) aF) (bH 5) G.h8))
def wY:bP:=((bC (bV 2<|b9 ij<|ar (ag<|cR 1 [] (cN<|aj 0) (bH 0) dN G.n_) aF)<|bC (bV 3<|tD (fh 1)<|aC<|.ax X)<|bC (bV 4<|eu<|ar (aj 1) aF)<|bC (h2 G.pq G.p_ 1000000)<|c8<|b9 kF<|ar (ag<|b9 jl<|ar (aj 3) aF) aF))
def kG:dH:=(d1 2 6 [0,1] wY)
def r4:bP:=((bC (bV 4<|az bD (ag<|bT 1 G.k2<|ar (ag<|az bD (aj 2)<|ag<|bT 2 G.fA<|ar (aj 0)<|ar (ag<|b9 dy<|ar (aj 2) aF) aF) aF)<|ag<|bT 2 G.fA<|ar (aj 0)<|ar (ag<|aC<|.int 4) aF)<|df (fu (bu<|az fE (aj 4)<|aj 2)<|fu (bu<|lg ih ih (ag<|aC<|.int 0) (ag<|az bD (aj 4)<|ag<|aC<|.int 0)<|ag<|aC<|.int 24)<|bu<|lg ih ih (ag<|aC<|.int 0) (ag<|az bD (aj 4)<|ag<|aC<|.int 1)<|ag<|aC<|.int 24) (kc<|hb hO 2 lr<|ar (aj 4) aF) d6))
def Ey:bP:=((bC (bV 2<|eu<|ar (ag<|dA<|ar (ag<|aC<|.int 12)<|ar (ag<|aC<|.int 12) aF) aF)<|bC (f9 (i7<|ar (ag<|bT 2 G.fA<|ar (aj 0)<|ar (aj 1) aF) aF) (bH 3) G.r4)<|c8<|fh 2))
def ob:dH:=(d1 2 5 [0,1] Ey)
def wW:ay ai:=((dA<|ar (ag<|az lz (aj 0)<|aj 1)<|ar (ag<|az g7 (aj 0)<|aj 1) aF))
def pd:bP:=((kc<|hb hO 5 qz<|ar (ag<|bT 2 G.fA<|ar (aj 0)<|ar (ag<|b9 dy<|ar (aj 5) aF) aF) aF))
def yr:ay ai:=((fh 0))
def sa:ay Bool:=((bu<|az d7 (ag<|az hZ (ag<|az g7 (ag<|az bD (aj 0)<|ag<|aC<|.int 0)<|ag<|aC<|.int 2)<|ag<|az g7 (ag<|az g7 (ag<|az bD (aj 0)<|ag<|aC<|.int 1)<|ag<|aC<|.int 3)<|ag<|aC<|.int 2)<|ag<|aC<|.int 0))
def ml:ay ai:=((az bD (ag<|eu<|ar (ag<|aC<|.int 0)<|ar (ag<|aC<|.int 0)<|ar (ag<|aC<|.int 6)<|ar (ag<|aC<|.int 3) aF)<|ag<|bT 2 G.fA<|ar (aj 1)<|ar (ag<|aC<|.int 4) aF))
def rZ:ay ai:=((dA<|ar (ag<|az eo (ag<|az bD (aj 0)<|ag<|aC<|.int 0)<|aj 1)<|ar (ag<|az eo (ag<|az bD (aj 0)<|ag<|aC<|.int 1)<|aj 2) aF))
def EE:bP:=((bC (bV 2<|bT 2 G.fA<|ar (aj 0)<|ar (ag<|aC<|.int 6) aF)<|bC (bV 3<|az eo (ag<|aC<|.int 1)<|ag<|bT 2 G.fA<|ar (aj 0)<|ar (ag<|aC<|.int 7) aF)<|bC (bV 4<|az eo (ag<|aC<|.int 1)<|ag<|bT 2 G.fA<|ar (aj 0)<|ar (ag<|b9 qn<|ar (ag<|aC<|.int 1)<|ar (ag<|b9 qp<|ar (ag<|aC<|.int 7)<|ar (ag<|az lz (aj 1)<|aj 3) aF) aF) aF)<|bC (bV 5<|cR 1 [3] (i7<|ar (ag<|az hZ (aj 4)<|aj 3) aF) (bH 0) dN G.wW)<|bC (df (ff (bu<|az d7 (aj 2)<|ag<|aC<|.int 1)<|bu<|az d7 (aj 2)<|ag<|aC<|.int 2) (f9 (i7<|ar (ag<|bT 2 G.fA<|ar (aj 0)<|ar (ag<|az eo (ag<|aC<|.int 1)<|ag<|az lz (ag<|b9 dy<|ar (aj 5) aF)<|ag<|aC<|.int 2) aF) aF) (bH 6) G.pd)<|df (bu<|az d7 (aj 2)<|ag<|aC<|.int 3) (bV 5<|cR 1 [] (cN<|aj 5) (bH 0) G.sa G.yr)<|df (bu<|az oa (aj 2)<|ag<|aC<|.int 3) (bV 5<|bT 2 G.ob<|ar (aj 0)<|ar (aj 1) aF) d6)<|bC (bV 7<|bT 2 G.kG<|ar (aj 5)<|ar (ag<|az bD (aj 5)<|ag<|bT 2 G.fA<|ar (aj 0)<|ar (ag<|b9 dy<|ar (aj 5) aF) aF) aF)<|bC (h9 (cR 1 [0] (i7<|ar (ag<|aC<|.int 2) aF) (bH 0) dN G.ml)<|rW 2<|iw (bH 8)<|iw (bH 9) mU)<|c8<|b9 kF<|ar (ag<|cR 1 [8,9] (cN<|aj 7) (bH 0) dN G.rZ) aF))
def pk:dH:=(d1 2 10 [0,1] EE)
def aa(q:Int×Int):V:=(.tup [.int q.1,.int q.2])
abbrev aM(QF:List (Int×Int)):ai:=.im (.tup<|QF.map aa)
abbrev aP(QF:List (Int×Int)):ai:=.lst (QF.map aa)
abbrev pZ(v h A:Int):ai:=.lst [.int v,.int h,.int A]
def dX(r:Nat)(c:ai):Prop:=(∃v h A,c=pZ v h A/\0<=v/\0<=h/\h<2^62/\0<=A/\A+r<2^40)
def dX.mono{k:Nat}(f:dX r c)(d:k<=r):dX k c:=by
 let⟨v,h,@A,rfl,t,E,a,b,e⟩:=f;exact⟨v,h,A,rfl,t,E,a,b,⋯⟩
def dX.lst(f:dX r c):∃p,c=.lst p:=by
 let⟨v,h,@A,rfl,W⟩:=f;exact⟨_,rfl⟩
def iZ(f:dX (r+1) c)(b:0<k)(g:k<1073741824):∃u T,fA [c,aD k]=Z (aD u,[T,aD k])/\0<=u/\u<k/\dX r T:=by
 let⟨v,h,@A,rfl,t,E,j,l,B⟩:=f;have C:∀v:Int,dj [V.int v,.int h,.int A] 0=Z (.int v):=λv=>rfl;have D:¬ k=0:=⋯
 by_cases i:0<v
 ·refine⟨v%k,pZ (v/k) h A,?_,jQ _ ⋯,kv _ b,v/k,h,A,rfl,Fg t ⋯,E,j,l,⋯⟩;have d:dj [V.int v,.int h,.int A] 0=Z (.int v):=rfl;simp -implicitDefEqProofs [fA,uU,i,b,g,d,i_]
 ·obtain⟨a,m⟩:∃a:Int,a=(h+(A+1)*104729)*48271%2305843009213693951:=⟨_,rfl⟩;obtain⟨Qp,e⟩:∃Qp:Int,Qp=a*(a%1009+69621)%2305843009213693951:=⟨_,rfl⟩;have n:0<=Qp:=by rw[e];exact jQ _ ∅
  have o:Qp<2^62:=by
   rw[e];have:=kv (a*(a%1009+69621)) (show (0:Int)<2305843009213693951 by decide);lia
  have p:gN (A+1) 104729=X:=nD ∅ ∅;have q:gN (h+(A+1)*104729) 48271=X:=nD ∅ ∅;have s:gN a (a%1009+69621)=X:=by
   have F:=jQ a (show (1009:Int)≠0 by decide);have G:=kv a (show (0:Int)<1009 by decide);exact nD ⋯ ⋯
  refine⟨Qp/1000003%k,pZ v Qp<|A+1,?_,jQ _ ⋯,kv _ b,v,Qp,A+1,rfl,t,n,o,⋯,⋯⟩;have d:dj [V.int v,.int h,.int A] 0=Z (.int v):=rfl;have w:dj [V.int v,.int h,.int A] 2=Z (.int A):=rfl;have x:dj [V.int v,.int h,.int<|A+1] 1=Z (.int h):=rfl;have y:dj [V.int v,.int h,.int<|A+1] 2=Z (.int<|A+1):=rfl;have z:dj [V.int v,.int Qp,.int<|A+1] 1=Z (.int Qp):=rfl;simp -implicitDefEqProofs [fA,uU,i,b,g,d,w,x,y,z,i_,p,q,s,<-m,<-e]
theorem yR:∀(w:List Int) (b Q5 U Q7:Option ai) (h:Int),0<=h->h<2^62->∃c Qp,0<=Qp/\Qp<2^62/\d5 (bH 3) nL (w.map .int) [b,Q5,Z<|aD h,U,Q7]=Z (.bg,[b,Q5,Z<|aD Qp,c,Q7])
 |[],b,Q5,U,Q7,h,e,t=>⟨U,h,e,t,rfl⟩
 |f::w,b,Q5,U,Q7,h,e,t=>by
  obtain⟨a,d⟩:∃a:Int,a=(h*69621+f%2147483587+13)%2305843009213693951:=⟨_,rfl⟩;have g:0<=a:=by rw[d];exact jQ _ ∅
  have i:a<2^62:=by
   rw[d];have:=kv (h*69621+f%2147483587+13) (show (0:Int)<2305843009213693951 by decide);lia
  let⟨c,@Qp,j,k,l⟩:=yR w b Q5 (Z<|aD f) Q7 a g i;refine⟨c,Qp,j,k,?_⟩;have m:gN h 69621=X:=nD ∅ ∅;rw[cH,d5];dsimp only;rw[show bH 3 (.im<|.int f) [b,Q5,Z<|aD h,U,Q7]=Z [b,Q5,Z<|aD h,Z<|aD f,Q7] from rfl];show (nL _).bind _=_;rw[show nL [b,Q5,Z<|aD h,Z<|aD f,Q7]=Z (.bg,[b,Q5,Z<|aD a,Z<|aD f,Q7]) by simp -implicitDefEqProofs [nL,m,<-d]];exact l
def JH{QM:List Int}{n:Int}(B:0<=n)(C:n<1000):∃c,o3 [.cS (QM.map .int),aD n]=Z (c,[.cS (QM.map .int),aD n])/\dX 1000000 c:=by
 obtain⟨w,g⟩:∃w,fm (QM.map V.int) Y (Z 63)=w.map .int:=⟨fm QM Y<|Z 63,sr _ _ _ _⟩;let⟨U,@h,z,j,k⟩:=yR w (Z<|.cS<|QM.map .int) (Z<|aD n) Y Y (7+7919*n) ⋯ ⋯;have l:gN 7919 n=X:=O6 ∅ ∅;have p:gN (10^60) (10^60)=X:=by decide +kernel
 have Rf:gN (10^60*10^60) (10^60)=X:=by decide +kernel
 have q:∀f m:Int,gN f (if 10^18<=m then 1 else 0)=X:=λf m=>nD (by split<;>decide) (by split<;>decide);have e:(10:Nat)<2^64:=by decide
 have r:(0:Int)<10^60*10^60*10^60:=by decide
 have M:∀m:Int,dX 1000000 (pZ (m%(10^60*10^60*10^60)*(if 10^18<=m then 1 else 0)) h 0):=λm=>by
  have t:=jQ m (show (10^60*10^60*10^60:Int)≠0 by decide);refine⟨_,_,_,rfl,?_,z,j,jJ 0,by decide⟩;split
  ·rw[E8];exact t
  ·rw[Int.mul_zero];exact jJ 0
 have s:bV 2 (az eo (ag<|aC<|.int 7)<|ag<|az hZ (ag<|aC<|.int 7919)<|aj 1) [Z (.cS<|QM.map .int),Z<|aD n,Y,Y,Y]=Z (.bg,[Z (.cS<|QM.map .int),Z<|aD n,Z<|aD<|7+7919*n,Y,Y]):=by
  simp -implicitDefEqProofs [l]
 have u:f9 (cN<|ag<|j4 (aj 0) lJ<|kr<|aC<|.int 63) (bH 3) G.nL [Z (.cS<|QM.map .int),Z<|aD n,Z<|aD<|7+7919*n,Y,Y]=Z (.bg,[Z (.cS<|QM.map .int),Z<|aD n,Z<|aD h,U,Y]):=
  (pn (o:=Y) (w:=w.map .int) (QA:=[Z (.cS<|QM.map .int),Z<|aD n,Z<|aD<|7+7919*n,Y,Y]) (by simp -implicitDefEqProofs [g]) k).trans rfl;have cM:∀m:Int,bV 3 (wU (bu<|az oa (ag<|b9 dy<|ar (aj 0) aF)<|ag<|aC<|.int 0) (az bD (aj 0)<|ag<|az g7 (aj 1)<|ag<|b9 dy<|ar (aj 0) aF)<|aC<|.int 0) [Z (.cS<|QM.map .int),Z<|aD n,Z<|aD h,U,Y]=Z (.bg,[Z (.cS<|QM.map .int),Z<|aD n,Z<|aD h,Z<|aD m,Y])->
   ∃c,o3 [.cS (QM.map .int),aD n]=Z (c,[.cS (QM.map .int),aD n])/\dX 1000000 c:=λm a=>by
  refine⟨_,?_,M m⟩;unfold o3 E4;refine qD [Z (.cS<|QM.map .int),Z<|aD n,Z<|aD h,Z<|aD m,Z<|aD<|10^60*10^60*10^60] rfl ((fH s).trans<|(fH u).trans<|(fH a).trans<|(fH (QA:=[Z (.cS<|QM.map .int),Z<|aD n,Z<|aD h,Z<|aD m,Z<|aD<|10^60*10^60*10^60]) ?_).trans ?_) rfl
  ·simp -implicitDefEqProofs [p,Rf,e,-Int.reducePow,-Nat.reducePow]
  ·simp -implicitDefEqProofs [q,e,r,-Int.reducePow,-Nat.reducePow]
 by_cases v:0<(QM.length:Int)
 ·obtain⟨i,b⟩:∃i:Int,i=n%(QM.length:Int):=⟨_,rfl⟩;have x:0<=i:=by rw[b];exact jQ _ ⋯
  have D:i<QM.length:=by rw[b];exact kv _ v
  obtain⟨m,a⟩:∃m,QM[i.toNat]?=Z m:=⟨QM[i.toNat]'⋯,by simp⟩;have y:dj (QM.map V.int) i=Z (.int m):=uz x (by rw[eH,a];rfl);refine cM m ?_;have A:0<QM.length:=⋯
  simp -implicitDefEqProofs [A,<-b,y]
 ·refine cM 0 ?_;have d:QM=[]:=y0.mp ⋯;subst d;simp -implicitDefEqProofs
def c2(q:Int×Int):List (Int×Int):=([(q.1-1,q.2),(q.1,q.2-1),(q.1,q.2+1),(q.1+1,q.2)])
def pv(q:Int×Int):k2 [.im (aa q)]=Z (aP<|c2 q,[.im (aa q)]):=by
 have a:dj [V.int q.1,.int q.2] 0=Z (.int q.1):=rfl;have b:dj [V.int q.1,.int q.2] 1=Z (.int q.2):=rfl;simp -implicitDefEqProofs [k2,DG,aa,c2,a,b]
def c3(q:Int×Int):List V:=([.int q.1,.int q.2])
def kS(q:Int×Int):aa q=.tup (c3 q):=rfl
def lu(c:c3 g=c3 e):g=e:=by
 unfold c3 at c;simp at c;exact Fq c.1 c.2
def zk(c:aa g=aa e):g=e:=by
 rw[kS,kS]at c;exact lu (by injection c)
def lA(q:Int×Int):V.keys 7 (c3 q)=X:=rfl
def mP:V->Int×Int
 |.tup [.int g,.int e]=>(g,e)
 |_=>(0,0)
def xq(q:Int×Int):mP (aa q)=q:=rfl
def nC(q:Int×Int):V.bo 8 (aa q)=X:=rfl
theorem m4:∀QF:List (Int×Int),V.ck 8 (QF.map aa)=X
 |[]=>rfl
 |q::s=>by rw[cH,V.ck,nC,m4 s];rfl
def qd(g e:Int×Int):cf (aa g) (aa e)=decide (g=e):=by
 show ((g.1==e.1)&&((g.2==e.2)&&X))=_;let⟨a,b⟩:=g;let⟨dV,dg⟩:=e;by_cases t:a=dV<;>by_cases E:b=dg<;>simp[t,E]
def yP(QF:List (Int×Int))(m:Int×Int):((QF.map aa).any λf=>cf f<|aa m)=decide (m∈QF):=by
 rw[yG,p0,qa,j1];constructor
 ·rintro⟨f,a,d⟩;have:decide (f=m)=X:=by rw[<-qd];exact d
  rw[<-hY this];exact a
 ·intro c;refine⟨m,c,?_⟩;show cf (aa m) (aa m)=X;rw[qd];exact dd rfl
theorem AL:∀(x:List V) (QC:List (Int×Int)),(∀f∈x,f∈QC.map aa)->x=(x.map mP).map aa
 |[],_,_=>rfl
 |f::x,QC,c=>by
  let⟨@q,W,d⟩:=cO.mp (c f<|.head _);rw[cH,cH,<-AL x QC λH a=>c H<|.tail _ a,<-d,xq]
def AM{x:List V}(c:x.Perm (QC.map aa)):∃a:List (Int×Int),a.Perm QC/\x=a.map aa:=by
 refine⟨x.map mP,?_,AL x QC λf b=>c.mem_iff.mp b⟩;have:=vt mP c;rw[gz]at this;have d:(mP ∘ aa:Int×Int->Int×Int)=id:=funext xq;rw[d,rU]at this;exact this
def uZ(ao:QC.Nodup)(a:QC.length<=1000):nB (QC.map aa):=by
 refine⟨⟨by rw[bj];exact a,λg b e c=>?_,?_⟩,.inl λv h=>?_⟩
 ·let⟨@f,W,rfl⟩:=cO.mp b;let⟨@H,W,rfl⟩:=cO.mp c;rfl
 ·exact O9 aa (λg e r d=>r<|zk d) ao
 ·let⟨@f,W,rfl⟩:=cO.mp h;rfl
def rx:(dC QG n).isSome=QG.any λq=>decide (q.1=n):=by
 unfold dC;rw[tN,List.isSome_find?]
def JG{a:List V}{v:V}:((fW QG n v).any λq=>decide (q.1=a))=((QG.any λq=>decide (q.1=a)) || decide (n=a)):=by
 unfold fW;split
 ·rename_i c;have d:((QG.map λb=>if b.1=n then (b.1,v) else b).any λq=>decide (q.1=a))=QG.any λq=>decide (q.1=a):=by
   rw[yG];congr 1;funext q;show decide ((if q.1=n then (q.1,v) else q).1=a)=_;split<;>rfl
  rw[d];by_cases e:n=a
  ·subst e;rw[c];rfl
  ·rw[c0 e,Bool.or_false]
 ·rw[List.any_append];simp
theorem y9:∀(QF a:List (List V×V)) (n:List V),((QF.foldl (λg q=>fW g q.1 q.2) a).any λq=>decide (q.1=n))=((a.any λq=>decide (q.1=n)) || QF.any λq=>decide (q.1=n))
 |[],a,n=>by simp
 |q::QF,a,n=>by
  rw[lb,y9 QF _ n,JG,mc,Bool.or_assoc]
def bR(QC:List (Int×Int)):List (List V×V):=(QC.map λm=>(c3 m,.ax X))
def vc(QC:List (Int×Int))(m:Int×Int):((bR QC).any λq=>decide (q.1=c3 m))=decide (m∈QC):=by
 unfold bR;rw[yG,p0,qa,j1];constructor
 ·rintro⟨f,a,d⟩;have:c3 f=c3 m:=hY d;rw[<-lu this];exact a
 ·intro c;exact⟨m,c,dd rfl⟩
def Dt(R:List (Int×Int))(m:Int×Int):(dC (en<|bR R)<|c3 m).isSome=decide (m∈R):=by
 rw[rx];unfold en;rw[y9,vc];rfl
def DC(QC:List (Int×Int))(m:Int×Int):(dC (bR QC)<|c3 m).isSome=decide (m∈QC):=by rw[rx,vc]
def zO(c:m∉QC):fW (bR QC) (c3 m) (.ax X)=bR (QC++[m]):=by
 unfold fW;rw[aK (by rw[vc];simpa using c)];unfold bR;rw[fb];rfl
def uL(R:List (Int×Int)):h_ (R.map λm=>.tup [aa m,.ax X])=Z (bR R):=by
 induction R with
 |nil=>rfl
 |cons m s a=>
  rw[cH,kS,h_,a];rfl
def uK(QC:List (Int×Int)):((bR QC).map λq=>V.tup q.1)=QC.map aa:=by
 unfold bR;rw[gz];rfl
def vB(QC:List (Int×Int)):((bR QC).all λq=>V.keys 7 q.1)=X:=by
 unfold bR;rw[ya,iC];intro m W;rfl
def ft(R QC:List (Int×Int)):Nat:=(R.countP λm=>decide (m∉QC))
def FD(t:m∈R)(E:m∉QC):ft R (QC++[m])<ft R QC:=by
 unfold ft;refine vP (λf b d=>?_) ⟨m,t,dd E,c0 λa=>a<|dR _<|.head _⟩;exact dd λa=>hY d (dO _ a)
structure lE(R:List (Int×Int))(e:Int×Int)(QC F:List (Int×Int)):Prop where
 ao:QC.Nodup
 km:e∈QC
 c7:∀m∈QC,m=e\/m∈R
 dc:QC.length+ft R QC<=R.length+1
 wl:F.length<=QC.length
abbrev gE(R:List (Int×Int))(e:Int×Int)(QC F:List (Int×Int))(L:Option ai):a6:=[Z (aP R),Z<|.im<|aa e,Z<|.aH<|en<|bR R,Z<|.aH<|bR QC,Z<|aP F,L]
def Lv{F:List (Int×Int)}(l:R.length<=500)(Qr:lE R e QC F):
  ∃g h,h8 (gE R e QC F<|Z<|.im<|aa m)=Z (.bg,gE R e g h<|Z<|.im<|aa m)/\lE R e g h/\2*ft R g+h.length<=2*ft R QC+F.length:=by
 have b:(dC (en<|bR R)<|c3 m).isSome=decide (m∈R):=Dt R m;have c:(dC (bR QC)<|c3 m).isSome=decide (m∈QC):=DC QC m;have i:=lA m;have n:=Qr.dc;have o:=Qr.wl;by_cases t:m∈R
 ·by_cases E:m∈QC
  ·refine⟨QC,F,?_,Qr,a5 _⟩;rw[dd t]at b;rw[dd E]at c;simp -implicitDefEqProofs [h8,kS,i,b,c]
  ·rw[dd t]at b;rw[c0 E]at c;have J:=FD t E;refine⟨QC++[m],F++[m],?_,⟨?_,dO _ Qr.km,λf a=>?_,?_,by simp;exact Qr.wl⟩,by simp;lia⟩
   ·have j:=zO E;have aZ:(bR QC).length<100000:=by unfold bR;rw[bj];lia
    have bh:F.length<100000:=⋯
    simp -implicitDefEqProofs [h8,kS,i,b,c,j,aZ,bh,hO]
   ·exact dk.mpr ⟨Qr.ao,eY _ _,λf a H k d=>E (by rw[cK.mp k]at d;rw[<-d];exact a)⟩
   ·rcases dG.mp a with a|a
    ·exact Qr.c7 f a
    ·rw[cK.mp a];exact .inr t
   ·rw[dx,fk];lia
 ·refine⟨QC,F,?_,Qr,a5 _⟩;rw[c0 t]at b;simp -implicitDefEqProofs [h8,kS,i,b]
theorem Dp{R:List (Int×Int)}{e:Int×Int}(c:R.length<=500):∀(QM:List (Int×Int)) {QC F:List (Int×Int)} (L:Option ai),lE R e QC F->
  ∃a b d,d5 (bH 5) h8 (QM.map aa) (gE R e QC F L)=Z (.bg,gE R e a b d)/\lE R e a b/\2*ft R a+b.length<=2*ft R QC+F.length
 |[],QC,F,L,Qr=>⟨QC,F,L,rfl,Qr,a5 _⟩
 |m::QM,QC,F,L,Qr=>by
  let⟨Q0,@n,f,g,h⟩:=Lv (m:=m) c Qr;let⟨Q6,i,@Rd,j,k,l⟩:=Dp c QM (Z<|.im<|aa m) g;refine⟨Q6,i,Rd,?_,k,eG l h⟩;rw[cH,d5];dsimp only;rw[show bH 5 (.im<|aa m) (gE R e QC F L)=Z (gE R e QC F<|Z<|.im<|aa m) from rfl];show (h8 _).bind _=_;rw[f];exact j
def wz{QT:Type}{F:List QT}(c:F≠[]):∃a l,F=a++[l]:=⟨F.dropLast,F.getLast c,(List.dropLast_concat_getLast c).symm⟩
def Jt(r:R.length<=500):∃b:List (Int×Int),kG [aP R,.im<|aa e]=Z (aM b,[aP R,.im<|aa e])/\b≠[]/\(∀k∈b,k=e\/k∈R)/\b.length<=R.length+1:=by
 have u:cR 1 [] (cN<|aj 0) (bH 0) dN G.n_ [Z (aP R),Z<|.im<|aa e,Y,Y,Y,Y]=Z (.lst<|R.map λm=>.tup [aa m,.ax X],[Z (aP R),Z<|.im<|aa e,Y,Y,Y,Y]):=by
  refine (l5 (w:=R.map aa) (o:=Z (0,aP R)) (QA:=[Z .dS,Z<|.im<|aa e,Y,Y,Y,Y]) rfl (iX _ (λm=>.tup [aa m,.ax X]) _ (λm j=>?_) ⋯)).trans rfl;exact⟨[Z (.im<|aa m)],_,[Z (.im<|aa m)],rfl,rfl,rfl,rfl⟩
 have c:((bR R).all λq=>V.keys 7 q.1)=X/\(bR R).length<=1000:=⟨vB R,by unfold bR;rw[bj];lia⟩;have x:bV 2 (b9 ij<|ar (ag<|cR 1 [] (cN<|aj 0) (bH 0) dN G.n_) aF) [Z (aP R),Z<|.im<|aa e,Y,Y,Y,Y]=Z (.bg,[Z (aP R),Z<|.im<|aa e,Z<|.aH<|en<|bR R,Y,Y,Y]):=by
  refine (tw (v:=.aH (en<|bR R)) (QA:=[Z (aP R),Z<|.im<|aa e,Y,Y,Y,Y]) ?_ (show 2<6 by decide)).trans rfl;simp -implicitDefEqProofs only[ag,b9,ar,u,qg,ll,mr,xc,wx,xk,ij,uL,c.1,c.2,and_self,gv]
 have z:bV 3 (tD (fh 1)<|aC<|.ax X) [Z (aP R),Z<|.im<|aa e,Z<|.aH<|en<|bR R,Y,Y,Y]=Z (.bg,[Z (aP R),Z<|.im<|aa e,Z<|.aH<|en<|bR R,Z<|.aH<|bR [e],Y,Y]):=rfl;have A:bV 4 (eu<|ar (aj 1) aF) [Z (aP R),Z<|.im<|aa e,Z<|.aH<|en<|bR R,Z<|.aH<|bR [e],Y,Y]=Z (.bg,gE R e [e] [e] Y):=rfl;have n:lE R e [e] [e]:=⟨eY _ _,.head _,λm j=>.inl<|cK.mp j,by
  have:R.countP (λm=>decide (m∉[e]))<=R.length:=DL;show 1+ft R [e]<=R.length+1;unfold ft;lia,a5 _⟩
 let⟨@QQ,B,⟨QC,@L,rfl,Qr⟩⟩:=o9 (m:=pq) (e:=p_) (λk y=>∃QC F L,y=gE R e QC F L/\lE R e QC F/\2*ft R QC+F.length<=k) (λy=>∃QC L,y=gE R e QC [] L/\lE R e QC [])
  (λk y C=>by
   let⟨QC,F,@L,rfl,Qr,c⟩:=C;by_cases p:F=[]
   ·subst p;exact⟨aq,gE R e QC [] L,rfl,(λf=>by cases f),λ_=>⟨QC,L,rfl,Qr⟩⟩
   ·let⟨a,@l,rfl⟩:=wz p;have D:pq (gE R e QC (a++[l]) L)=Z (X,gE R e QC (a++[l]) L):=by
     have E:=m4 (a++[l]);have H:dW ((a++[l]).map aa) []=aq:=by
      cases a with
      |nil=>rfl
      |cons g s=>rfl
     have h:eB (aP<|a++[l]) (.lst [])=Z (.im<|.ax X):=by
      simp only[eB,E,H];rfl
     show (((eB (aP<|a++[l])<|.lst []).map λv=>(v,gE R e QC (a++[l]) L)).bind λq=>(k9 q.1).map λe=>(e,q.2))=_;rw[h];rfl
    refine⟨X,_,D,λ_=>?_,(λf=>by cases f)⟩;have I:lE R e QC a:=⟨Qr.ao,Qr.km,Qr.c7,Qr.dc,by have:=Qr.wl;simp at this;lia⟩;let⟨Q6,i,@Rd,J,M,S⟩:=Dp r (c2 l) L I;refine⟨.bg,gE R e Q6 i Rd,?_,.inl rfl,2*ft R Q6+i.length,?_,Q6,i,Rd,rfl,M,a5 _⟩
    ·unfold p_;refine (pn (o:=Y) (w:=(c2 l).map aa) (QA:=gE R e QC a L) ?_ J).trans rfl;have N:((a++[l]).map aa).getLast?=Z (aa l):=by simp
     have O:((a++[l]).map aa).dropLast=a.map aa:=by simp
     have d:=pv l;simp -implicitDefEqProofs only[cN,ag,bT,ar,hb,x9,vl,hO,gv,qg,ll,zI,rb,N,O,mr,yJ,ey,jg,d];simp -implicitDefEqProofs [d,iS]
    ·simp at c;lia) 1000000 _ (gE R e [e] [e] Y) ⟨[e],[e],Y,rfl,n,a5 _⟩ (by
    have:=n.dc;simp;simp at this;lia)
 have P:=uZ Qr.ao (by have:=Qr.dc;lia);let⟨@b,T,Q⟩:=AM (iF<|QC.map aa);refine⟨b,?_,λf=>?_,λk c=>Qr.c7 k<|T.mem_iff.mp c,by rw[T.length_eq];have:=Qr.dc;lia⟩
 ·unfold kG wY;refine qD (gE R e QC [] L) rfl ((fH x).trans<|(fH z).trans<|(fH A).trans<|(fH B).trans<|i3 ?_) rfl;have h:jl [.aH (bR QC)]=Z (aP b):=by
   show gJ ((bR QC).map λq=>.tup q.1)=_;rw[uK];unfold gJ;rw[aE (oU.mpr P),Q]
  simp -implicitDefEqProofs only[b9,ar,ag,aj,x9,vl,ll,mr,qg,xc,xk,PI,wx,sN,h,kF,iS]
 ·subst f;have:=T.length_eq;have t:=xA Qr.km;simp at this;rw[<-this]at t;simp at t
def wJ(q:Int×Int):dj [V.int q.1,.int q.2] 0=Z (.int q.1):=rfl
def l7(q:Int×Int):dj [V.int q.1,.int q.2] 1=Z (.int q.2):=rfl
def pM{a:Int}(b:0<=a)(c:R[a.toNat]?=Z m):dj (R.map aa) a=Z (aa m):=uz b (by rw[eH,c];rfl)
def rN(QF:List (Int×Int))(m:Int×Int):eU (aa m) (aP QF)=Z (decide (m∈QF)):=by
 rw[LD,nC,m4,yP];rfl
def Fv(QF:List (Int×Int))(m:Int×Int):eU (aa m) (aM QF)=Z (decide (m∈QF)):=by
 rw[JJ,nC,m4,yP];rfl
def ib(m:Int×Int):Prop:=(0<=m.1/\m.1<50/\0<=m.2/\m.2<50)
def Ks{n:Option ai}(j:dX (r+2) c)(p:R≠[])(al:R.length<=500)(Qx:∀m∈R,ib m):
  ∃T g x,r4 [Z c,Z<|aD k,Z<|aP R,n,Q7]=Z (.bg,[Z T,Z<|aD k,Z<|aP g,n,x])/\dX r T/\g≠[]/\g.length<=R.length+1/\∀m∈g,ib m:=by
 have am:=ql.mpr p;let⟨u,@t,z,A,an,QB⟩:=iZ (r:=r+1) (k:=(R.length:Int)) j ⋯ ⋯;obtain⟨m,b⟩:∃m,R[u.toNat]?=Z m:=⟨R[u.toNat]'⋯,by simp⟩;let⟨i,@E,B,dV,dg,QN⟩:=iZ (r:=r) (k:=4) QB ⋯ ⋯;obtain⟨o,C⟩:∃o,(c2 m)[i.toNat]?=Z o:=⟨(c2 m)[i.toNat]'(by show i.toNat<4;lia),by simp⟩;have D:=pM A b;have F:=pM dV C;have I:=pv m;let⟨@J,rfl⟩:=j.lst;let⟨@ap,rfl⟩:=QB.lst;let⟨@f,rfl⟩:=QN.lst;have l:bV 4 (az bD (ag<|bT 1 G.k2<|ar (ag<|az bD (aj 2)<|ag<|bT 2 G.fA<|ar (aj 0)<|ar (ag<|b9 dy<|ar (aj 2) aF) aF) aF)<|ag<|bT 2 G.fA<|ar (aj 0)<|ar (ag<|aC<|.int 4) aF) [Z (.lst J),Z<|aD k,Z<|aP R,n,Q7]=Z (.bg,[Z (.lst f),Z<|aD k,Z<|aP R,n,Z<|.im<|aa o]):=by
  simp -implicitDefEqProofs [z,D,I,B,F]
 have L:=rN R o;have M:=wJ o;have N:=l7 o;obtain⟨y,d⟩:∃y:a6,y=[Z (.lst f),Z<|aD k,Z<|aP R,n,Z<|.im<|aa o]:=⟨_,rfl⟩;rw[<-d]at l;have O:bu (az fE (aj 4)<|aj 2) y=Z (!decide (o∈R),y):=by
  rw[d];show (((eU (aa o)<|aP R).map λs=>ai.im<|.ax<|!s).map λv=>(v,[Z (.lst f),Z<|aD k,Z<|aP R,n,Z<|.im<|aa o])).bind (λq=>(k9 q.1).map λe=>(e,q.2))=_;rw[L];rfl
 have P:bu (lg ih ih (ag<|aC<|.int 0) (ag<|az bD (aj 4)<|ag<|aC<|.int 0)<|ag<|aC<|.int 24) y=Z (decide (0<=o.1)&&decide (o.1<=24),y):=by
  rw[d];by_cases a:0<=o.1<;>simp -implicitDefEqProofs [aa,M,a]
 have Q:bu (lg ih ih (ag<|aC<|.int 0) (ag<|az bD (aj 4)<|ag<|aC<|.int 1)<|ag<|aC<|.int 24) y=Z (decide (0<=o.2)&&decide (o.2<=24),y):=by
  rw[d];by_cases a:0<=o.2<;>simp -implicitDefEqProofs [aa,N,a]
 have w:∀e:Bool,e=(!decide (o∈R)&&((decide (0<=o.1)&&decide (o.1<=24))&&(decide (0<=o.2)&&decide (o.2<=24))))->
   fu (bu<|az fE (aj 4)<|aj 2) (fu (bu<|lg ih ih (ag<|aC<|.int 0) (ag<|az bD (aj 4)<|ag<|aC<|.int 0)<|ag<|aC<|.int 24)<|bu<|lg ih ih (ag<|aC<|.int 0) (ag<|az bD (aj 4)<|ag<|aC<|.int 1)<|ag<|aC<|.int 24) y=Z (e,y):=by
  intro e S;rw[S];simp -implicitDefEqProofs only[fu,O,P,Q,ll];generalize (decide (0<=o.1)&&decide (o.1<=24))=H;generalize (decide (0<=o.2)&&decide (o.2<=24))=a;cases decide (o∈R)<;>cases H<;>rfl
 unfold r4;by_cases h:o∉R/\0<=o.1/\o.1<=24/\0<=o.2/\o.2<=24
 ·have bf:=w X (by simp[h]);refine⟨.lst f,R++[o],Z<|.im<|aa o,(fH l).trans<|(El bf).trans ?_,QN,by simp,by simp,λm b=>?_⟩
  ·have bh:R.length<100000:=⋯
   rw[d];simp -implicitDefEqProofs [hO,bh]
  ·rcases dG.mp b with b|b
   ·exact Qx m b
   ·rw[cK.mp b];exact⟨h.2.1,⋯,h.2.2.2.1,⋯⟩
 ·have U:=w aq (by
   cases a:(!decide (o∈R)&&((decide (0<=o.1)&&decide (o.1<=24))&&(decide (0<=o.2)&&decide (o.2<=24)))) with
   |false=>rfl
   |true=>
    simp at a;exact absurd ⟨a.1,a.2.1.1,a.2.1.2,a.2.2.1,a.2.2.2⟩ h)
  exact⟨.lst f,R,Z<|.im<|aa o,(fH l).trans ((Bh U).trans (by rw[d];rfl)),QN,p,⋯,Qx⟩
def LY(a i:Int):qn [.im (.int a),.im<|.int i]=Z (.im<|.int<|if i>a then i else a):=rfl
def Gy(a i:Int):qp [.im (.int a),.im<|.int i]=Z (.im<|.int<|if i<a then i else a):=rfl
theorem zQ{QT Rk:Type}(C:QT->Rk):∀(x:List QT) (n:Nat),(x.map C).eraseIdx n=(x.eraseIdx n).map C
 |[],_=>rfl
 |_::_,0=>rfl
 |g::x,n+1=>by simp[zQ C x n]
def kQ(l:Int)(r:Nat):List (Int×Int):=((range r).map λ(n:Nat)=>((0+(n:Int))/l,(0+(n:Int))%l))
def Kf(l:Int)(r:Nat):(kQ l r).length=r:=by rw[kQ,bj,hq]
def O4(a:0<l)(e:l<=7)(f:r<=49):∀m∈kQ l r,ib m:=by
 intro m b;let⟨@n,c,rfl⟩:=cO.mp b;have:=e0.mp c;have jI:0<=(0+(n:Int))/l:=Fg ⋯ ⋯;have Q_:(0+(n:Int))/l<=0+(n:Int):=Int.ediv_le_self _ ⋯;have d:=jQ (0+(n:Int)) (show l≠0 by lia);have g:=kv (0+(n:Int)) a;exact⟨jI,by show (0+(n:Int))/l<50;lia,d,by show (0+(n:Int))%l<50;lia⟩
def J1{a:Int}(d:0<l)(e:l<=7)(f:0<a)(g:a<=7):
  bV 5 (cR 1 [3] (i7<|ar (ag<|az hZ (aj 4)<|aj 3) aF) (bH 0) dN G.wW) [b,Q5,Rd,Z<|aD l,Z<|aD a,L,I,P,B,D]=Z (.bg,[b,Q5,Rd,Z<|aD l,Z<|aD a,Z<|aP<|kQ l (a*l).toNat,I,P,B,D]):=by
 obtain⟨r,c⟩:∃r:Int,r=a*l:=⟨_,rfl⟩;have j:0<r:=by rw[c];exact zv f d
 have k:r<=49:=by
  rw[c];have:=Ez g e ⋯ ⋯;lia
 have h:qV r:=⟨⋯,⋯⟩;have mk:gN a l=X:=nD ⋯ ⋯;rw[<-c];refine (tw (v:=aP (kQ l r.toNat)) (QA:=[b,Q5,Rd,Z<|aD l,Z<|aD a,L,I,P,B,D]) ?_ (show 5<10 by decide)).trans rfl;refine (l5 (w:=fZ 0 r.toNat) (o:=Y) (QA:=[b,Q5,Rd,Z<|aD l,Z<|aD a,L,I,P,B,D]) ?_ (iX _ (λ(n:Nat)=>aa ((0+(n:Int))/l,(0+(n:Int))%l)) _ (λn m=>?_) (by rw[hq];lia))).trans ?_
 ·simp -implicitDefEqProofs [mk,<-c,h]
 ·have i:l<1073741824:=⋯
  exact⟨[Z (aD<|0+(n:Int)),Z<|aD l],_,[Z (aD<|0+(n:Int)),Z<|aD l],rfl,rfl,by simp -implicitDefEqProofs [wW,d,i,aa],rfl⟩
 ·show Z (ai.lst _,_)=Z (ai.lst<|(kQ l r.toNat).map aa,_);unfold kQ;rw[gz];rfl
def MW(u:Nat){c:ai}{R:List (Int×Int)}{I:Option ai}(j:dX (r+200) c)(Q:u<R.length)(al:R.length<=100)(Qx:∀m∈R,ib m):
  ∃T d o,d5 (bH 6) pd (fZ 0 u) [Z c,Q5,Rd,U,Q7,Z<|aP R,I,P,B,D]=Z (.bg,[Z T,Q5,Rd,U,Q7,Z<|aP d,o,P,B,D])/\dX r T/\d≠[]/\d.length<=R.length/\∀m∈d,ib m:=by
 let⟨@QQ,p,⟨E,b,@q,rfl,QN,g,s⟩⟩:=pl (QY:=bH 6) (e:=pd) (w:=fZ 0 u) (λa y=>∃c b I,y=[Z c,Q5,Rd,U,Q7,Z<|aP b,I,P,B,D]/\dX (r+200-a) c/\b.length+a=R.length/\∀m∈b,ib m) (y:=[Z c,Q5,Rd,U,Q7,Z<|aP R,I,P,B,D]) ⟨c,R,I,rfl,j,rfl,Qx⟩
  (λa f y v x=>by
   let⟨c,b,@I,rfl,i,Q_,z⟩:=x;have S:a<u:=by
    have:=(e9.mp v).1
    rwa [fZ,bj,hq]at this
   let⟨l,@t,A,C,F,QB⟩:=iZ (r:=r+200-(a+1)) (k:=(b.length:Int)) (i.mono ⋯) ⋯ ⋯;obtain⟨m,h⟩:∃m,b[l.toNat]?=Z m:=⟨b[l.toNat]'⋯,by simp⟩;let⟨@G,rfl⟩:=i.lst;let⟨@n,rfl⟩:=QB.lst;refine⟨[Z (.lst G),Q5,Rd,U,Q7,Z<|aP b,Z<|.im f,P,B,D],.bg,[Z (.lst n),Q5,Rd,U,Q7,Z<|aP<|b.eraseIdx l.toNat,Z<|.im f,P,B,D],rfl,?_,.inl rfl,.lst n,b.eraseIdx l.toNat,_,rfl,QB,?_,λm h=>z m<|List.mem_of_mem_eraseIdx h⟩
   ·have H:(b.map aa)[l.toNat]?=Z (aa m):=by rw[eH,h];rfl
    have J:(0<=l/\l<((b.map aa).length:Int)):=⟨C,by rw[bj];exact F⟩;have L:=zQ aa b l.toNat;have M:qz (aP b) [aD l]=Z (.im<|aa m,aP<|b.eraseIdx l.toNat):=by
     show (if 0<=l/\l<((b.map aa).length:Int) then _ else Y)=_;rw[aE J,H,L];rfl
    simp -implicitDefEqProofs [pd,hO,A,M,-qz]
   ·rw[List.length_eraseIdx,aE ⋯];lia)
 have N:(fZ 0 u).length=u:=by rw[fZ,bj,hq]
 rw[N]at QN g;exact⟨E,b,q,p,QN.mono ⋯,λO=>by rw[O]at g;simp at g;lia,⋯,s⟩
def qP(m:Int×Int):Bool:=(decide (m.1%2*(m.2%3%2)=0))
def Oj(d:R.length<=1000):
  bV 5 (cR 1 [] (cN<|aj 5) (bH 0) G.sa G.yr) [b,Q5,Rd,U,Q7,Z<|aP R,I,P,B,D]=Z (.bg,[b,Q5,Rd,U,Q7,Z<|aP<|R.filter qP,I,P,B,D]):=by
 refine (tw (v:=aP (R.filter qP)) (QA:=[b,Q5,Rd,U,Q7,Z<|aP R,I,P,B,D]) ?_ (show 5<10 by decide)).trans rfl;refine (l5 (w:=R.map aa) (o:=Z (5,aP R)) (QA:=[b,Q5,Rd,U,Q7,Z .dS,I,P,B,D]) rfl (lC _ qP aa _ _ (λm e=>?_) (by rw[jg];lia))).trans rfl;have a:=wJ m;have c:=l7 m;have mk:gN (m.1%2) (m.2%3%2)=X:=by
  have:=jQ (m.2%3) (show (2:Int)≠0 by decide);have:=kv (m.2%3) (show (0:Int)<2 by decide);exact nD ⋯ ⋯
 refine⟨[Z (.im<|aa m)],[Z (.im<|aa m)],rfl,?_,λ_=>rfl,λ_=>⟨[Z (.im<|aa m)],rfl,rfl⟩⟩;simp -implicitDefEqProofs [sa,aa,a,c,mk,qP];rfl
def MM(c:0<r):(0,0)∈kQ l r:=by
 refine cO.mpr ⟨0,e0.mpr c,?_⟩;show ((0:Int)/l,(0:Int)%l)=_;rw[Int.zero_ediv,Int.zero_emod]
def mid:bP:=((df (ff (bu<|az d7 (aj 2)<|ag<|aC<|.int 1)<|bu<|az d7 (aj 2)<|ag<|aC<|.int 2) (f9 (i7<|ar (ag<|bT 2 G.fA<|ar (aj 0)<|ar (ag<|az eo (ag<|aC<|.int 1)<|ag<|az lz (ag<|b9 dy<|ar (aj 5) aF)<|ag<|aC<|.int 2) aF) aF) (bH 6) G.pd)<|df (bu<|az d7 (aj 2)<|ag<|aC<|.int 3) (bV 5<|cR 1 [] (cN<|aj 5) (bH 0) G.sa G.yr)<|df (bu<|az oa (aj 2)<|ag<|aC<|.int 3) (bV 5<|bT 2 G.ob<|ar (aj 0)<|ar (aj 1) aF) d6))
def B8(j:dX (r+1) c):∃(h:Int) (T:ai),ml [b,Z c]=Z (aD h,[b,Z T])/\0<=h/\h<7/\dX r T:=by
 let⟨u,@t,a,g,i,QB⟩:=iZ (r:=r) (k:=4) j ⋯ ⋯;let⟨@l,rfl⟩:=j.lst;let⟨@d,rfl⟩:=QB.lst;have e:u=0\/u=1\/u=2\/u=3:=⋯
 obtain⟨h,Qx,z,f⟩:∃h:Int,dj [V.int 0,.int 0,.int 6,.int 3] u=Z (.int h)/\0<=h/\h<7:=by
  rcases e with rfl|rfl|rfl|rfl
  ·exact⟨0,rfl,by decide,by decide⟩
  ·exact⟨0,rfl,by decide,by decide⟩
  ·exact⟨6,rfl,by decide,by decide⟩
  ·exact⟨3,rfl,by decide,by decide⟩
 exact⟨h,.lst d,by simp -implicitDefEqProofs [ml,a,Qx],z,f,QB⟩
def Mg(j:dX (r+2) c):∃(h A:Int) (T:ai),h9 (cR 1 [0] (i7<|ar (ag<|aC<|.int 2) aF) (bH 0) dN G.ml) (rW 2<|iw (bH 8)<|iw (bH 9) mU) [Z c,Q5,Rd,U,Q7,L,I,P,B,D]=Z (.bg,[Z T,Q5,Rd,U,Q7,L,I,P,Z<|aD h,Z<|aD A])/\(0<=h/\h<7/\0<=A/\A<7)/\dX r T:=by
 let⟨h,@t,a,z,d,QB⟩:=B8 (r:=r+1) (b:=Z (aD 0)) j;let⟨A,@E,e,f,g,QN⟩:=B8 (r:=r) (b:=Z (aD 1)) QB;refine⟨h,A,E,?_,⟨z,d,f,g⟩,QN⟩;have ei:gx 1 (bH 0) dN ml [.int 0,.int 1] [] [Z c]=Z ([.int h,.int A],[Z E]):=by
  show (ml [Z (aD 0),Z c]).bind _=_;rw[a];show (ml [Z (aD 1),Z t]).bind _=_;rw[e];rfl
 have i:=l5 (QW:=[0]) (Q:=i7 (ar (ag<|aC<|.int 2) aF)) (y:=[Z c,Q5,Rd,U,Q7,L,I,P,B,D]) (QA:=[Z c,Q5,Rd,U,Q7,L,I,P,B,D]) (o:=Y) (w:=[.int 0,.int 1]) rfl ei;unfold h9;rw[i];rfl
def I1{a:List (Int×Int)}{h A:Int}(f:a.length<=1000):
  b9 kF (ar (ag<|cR 1 [8,9] (cN<|aj 7) (bH 0) dN G.rZ) aF) [b,Q5,Rd,U,Q7,L,I,Z<|aM a,Z<|aD h,Z<|aD A]=Z (aM<|a.map λm=>(m.1+h,m.2+A),[b,Q5,Rd,U,Q7,L,I,Z<|aM a,Z<|aD h,Z<|aD A]):=by
 have c:cR 1 [8,9] (cN<|aj 7) (bH 0) dN G.rZ [b,Q5,Rd,U,Q7,L,I,Z<|aM a,Z<|aD h,Z<|aD A]=Z (aP<|a.map λm=>(m.1+h,m.2+A),[b,Q5,Rd,U,Q7,L,I,Z<|aM a,Z<|aD h,Z<|aD A]):=by
  refine (l5 (w:=a.map aa) (o:=Y) (QA:=[b,Q5,Rd,U,Q7,L,I,Z<|aM a,Z<|aD h,Z<|aD A]) rfl (iX _ (λm=>aa (m.1+h,m.2+A)) _ (λm g=>?_) ⋯)).trans ?_
  ·have d:=wJ m;have e:=l7 m;exact⟨[Z (.im<|aa m),Z<|aD h,Z<|aD A],_,[Z (.im<|aa m),Z<|aD h,Z<|aD A],rfl,rfl,by simp -implicitDefEqProofs [rZ,aa,d,e],rfl⟩
  ·show Z (ai.lst _,_)=Z (ai.lst<|(a.map λm=>(m.1+h,m.2+A)).map aa,_);rw[gz];rfl
 simp -implicitDefEqProofs only[b9,ar,ag,c,ll,mr,qg,xc,xk,wx,kF,iS]
def Mf(m:Int×Int):Prop:=(0<=m.1/\m.1<60/\0<=m.2/\m.2<60)
def NV(b:0<k)(L:k<=40){c:ai}(j:dX (r+200) c):∃T R,ob [c,aD k]=Z (aP R,[T,aD k])/\dX r T/\R≠[]/\R.length<=60/\∀m∈R,ib m:=by
 let⟨u,t,g,M,N,QB⟩:=iZ (r:=r+199) (k:=k) j b ⋯;have h:qV u:=⟨⋯,⋯⟩;let⟨QQ,i,⟨E,R,U,Q7,rfl,QN,l,p,q⟩⟩:=pl (QY:=bH 3) (e:=r4) (w:=fZ 0 u.toNat) (λa y=>∃c R U Q7,y=[Z c,Z<|aD k,Z<|aP R,U,Q7]/\dX (r+198-2*a) c/\R≠[]/\R.length<=a+1/\∀m∈R,ib m) (y:=[Z t,Z<|aD k,Z<|aP [(12,12)],Y,Y]) ⟨t,[(12,12)],Y,Y,rfl,QB.mono ⋯,by simp,by simp,λm s=>by rw[cK.mp s];exact⟨by decide,by decide,by decide,by decide⟩⟩
  (λa f y v x=>by
   let⟨c,R,U,Q7,rfl,z,Q_,Rb,A⟩:=x;have S:a<u.toNat:=by
    have:=(e9.mp v).1
    rwa [fZ,bj,hq]at this
   let⟨T,B,O,d,F,C,P,D⟩:=Ks (r:=r+198-2*(a+1)) (k:=k) (n:=Z (.im f)) (Q7:=Q7) (z.mono ⋯) Q_ ⋯ A;exact⟨[Z c,Z<|aD k,Z<|aP R,Z<|.im f,Q7],.bg,_,rfl,d,.inl rfl,T,B,_,_,rfl,F,C,⋯,D⟩)
 have G:(fZ 0 u.toNat).length=u.toNat:=by rw[fZ,bj,hq]
 rw[G]at QN p;refine⟨E,R,?_,QN.mono ⋯,l,⋯,q⟩;let⟨H,rfl⟩:=j.lst;let⟨I,rfl⟩:=QB.lst;let⟨J,rfl⟩:=QN.lst;unfold ob Ey;refine qD [Z (.lst J),Z<|aD k,Z .dS,U,Q7] rfl ((fH (QA:=[Z (.lst H),Z<|aD k,Z<|aP [(12,12)],Y,Y]) rfl).trans<|(fH<|pn (o:=Y) (w:=fZ 0 u.toNat) (QA:=[Z (.lst I),Z<|aD k,Z<|aP [(12,12)],Y,Y]) ?_ i).trans rfl) rfl;simp -implicitDefEqProofs [g,h]
def JE(x:0<k)(y:k<=40){c:ai}{b l e:Int}{R:List (Int×Int)}(j:dX (r+202) c)(M:0<=b)(N:b<6)(f:(0,0)∈R)(n:R.length<=60)(Qx:∀m∈R,ib m):
  ∃T a I,mid [Z c,Z<|aD k,Z<|aD b,Z<|aD l,Z<|aD e,Z<|aP R,Y,Y,Y,Y]=Z (.bg,[Z T,Z<|aD k,Z<|aD b,Z<|aD l,Z<|aD e,Z<|aP a,I,Y,Y,Y])/\dX r T/\a≠[]/\a.length<=60/\∀m∈a,ib m:=by
 have O:=xA f;have p:∀b:Int,∃T a I,f9 (i7<|ar (ag<|bT 2 G.fA<|ar (aj 0)<|ar (ag<|az eo (ag<|aC<|.int 1)<|ag<|az lz (ag<|b9 dy<|ar (aj 5) aF)<|ag<|aC<|.int 2) aF) aF) (bH 6) G.pd [Z c,Z<|aD k,Z<|aD b,Z<|aD l,Z<|aD e,Z<|aP R,Y,Y,Y,Y]=Z (.bg,[Z T,Z<|aD k,Z<|aD b,Z<|aD l,Z<|aD e,Z<|aP a,I,Y,Y,Y])/\dX r T/\a≠[]/\a.length<=60/\∀m∈a,ib m:=λb=>by
  let⟨u,t,z,Q,S,QB⟩:=iZ (r:=r+200) (k:=1+(R.length:Int)/2) (j.mono ⋯) ⋯ ⋯;have A:qV u:=⟨⋯,⋯⟩;let⟨E,g,I,C,QN,h,q,i⟩:=MW (Q5:=Z (aD k)) (Rd:=Z (aD b)) (U:=Z (aD l)) (Q7:=Z (aD e)) (P:=Y) (B:=Y) (D:=Y) (I:=Y) u.toNat QB (R:=R) ⋯ ⋯ Qx;refine⟨E,g,I,?_,QN,h,⋯,i⟩;let⟨F,rfl⟩:=j.lst;let⟨H,rfl⟩:=QB.lst;refine (pn (o:=Y) (w:=fZ 0 u.toNat) (QA:=[Z (.lst H),Z<|aD k,Z<|aD b,Z<|aD l,Z<|aD e,Z<|aP R,Y,Y,Y,Y]) ?_ C).trans rfl;simp -implicitDefEqProofs [z,A]
 have v:∀b:Int,∃T a I,bV 5 (bT 2 G.ob<|ar (aj 0)<|ar (aj 1) aF) [Z c,Z<|aD k,Z<|aD b,Z<|aD l,Z<|aD e,Z<|aP R,Y,Y,Y,Y]=Z (.bg,[Z T,Z<|aD k,Z<|aD b,Z<|aD l,Z<|aD e,Z<|aP a,I,Y,Y,Y])/\dX r T/\a≠[]/\a.length<=60/\∀m∈a,ib m:=λb=>by
  let⟨E,g,d,QN,h,q,i⟩:=NV (r:=r) x y (j.mono ⋯);refine⟨E,g,Y,?_,QN,h,q,i⟩;let⟨F,rfl⟩:=j.lst;let⟨al,rfl⟩:=QN.lst;simp -implicitDefEqProofs [d]
 have J:b=0\/b=1\/b=2\/b=3\/b=4\/b=5:=⋯
 unfold mid;rcases J with rfl|rfl|rfl|rfl|rfl|rfl
 ·exact⟨c,R,Y,rfl,j.mono ⋯,uW f,n,Qx⟩
 ·let⟨T,a,I,d,s⟩:=p 1;exact⟨T,a,I,d,s⟩
 ·let⟨T,a,I,d,s⟩:=p 2;exact⟨T,a,I,d,s⟩
 ·exact⟨c,R.filter qP,Y,Oj ⋯,j.mono ⋯,uW (hS.mpr ⟨f,by decide⟩),eG (t5 _ _) n,λm L=>Qx m (hS.mp L).1⟩
 ·let⟨T,a,I,d,s⟩:=v 4;exact⟨T,a,I,d,s⟩
 ·let⟨T,a,I,d,s⟩:=v 5;exact⟨T,a,I,d,s⟩
def I_(N:0<k)(O:k<=40){c:ai}(j:dX (r+300) c):∃T b,pk [c,aD k]=Z (aM b,[T,aD k])/\dX r T/\b≠[]/\b.length<=100/\∀m∈b,Mf m:=by
 let⟨d,t,Q,S,al,QB⟩:=iZ (r:=r+299) (k:=6) j ⋯ ⋯;let⟨l,E,am,dV,dg,QN⟩:=iZ (r:=r+298) (k:=7) QB ⋯ ⋯;obtain⟨n,an⟩:∃n:Int,n=k/(1+l):=⟨_,rfl⟩;obtain⟨f,q⟩:∃f:Int,f=(if n<7 then n else 7):=⟨_,rfl⟩;obtain⟨g,s⟩:∃g:Int,g=(if f>1 then f else 1):=⟨_,rfl⟩;have co:f<=7:=by rw[q];split<;>lia
 have cr:g<=7/\0<g:=by rw[s];split<;>lia
 let⟨a,cs,ap,db,ds,u⟩:=iZ (r:=r+297) (k:=g) QN ⋯ ⋯;have o:0<1+l:=⋯
 have p:1+l<=7:=⋯
 have v:0<1+a:=⋯
 have w:1+a<=7:=⋯
 have dL:0<(1+a)*(1+l):=zv v o;have i:(1+a)*(1+l)<=49:=Ez w p ⋯ ⋯;let⟨eq,R,I,as,x,Q_,Rb,y⟩:=JE (r:=r+3) N O (b:=d) (l:=1+l) (e:=1+a) (R:=kQ (1+l) ((1+a)*(1+l)).toNat) (u.mono ⋯) S al (MM ⋯) (by rw[Kf];lia) (O4 o p ⋯);have ev:=ql.mpr Q_;let⟨C,ex,a1,a2,fd,F⟩:=iZ (r:=r+2) (k:=(R.length:Int)) x ⋯ ⋯;obtain⟨e,G⟩:∃e,R[C.toNat]?=Z e:=⟨R[C.toNat]'⋯,by simp⟩;let⟨b,bd,Q0,Q6,fn⟩:=Jt (R:=R) (e:=e) ⋯;let⟨h,A,be,bi,⟨z,fr,f0,H⟩,M⟩:=Mg (r:=r) (Q5:=Z (aD k)) (Rd:=Z (aD d)) (U:=Z (aD<|1+l)) (Q7:=Z (aD<|1+a)) (L:=Z (aP R)) (I:=I) (P:=Z (aM b)) (B:=Y) (D:=Y) F;refine⟨be,b.map λm=>(m.1+h,m.2+A),?_,M,by simpa using Q0,by rw[bj];lia,λm bm=>?_⟩
 ·let⟨f1,rfl⟩:=j.lst;let⟨bn,rfl⟩:=QB.lst;let⟨bs,rfl⟩:=QN.lst;let⟨bv,rfl⟩:=u.lst;let⟨f2,rfl⟩:=x.lst;let⟨ca,rfl⟩:=F.lst;let⟨cd,rfl⟩:=M.lst;have H:=pM a2 G;unfold pk EE;refine qD [Z (.lst cd),Z<|aD k,Z<|aD d,Z<|aD<|1+l,Z<|aD<|1+a,Z<|aP R,I,Z<|aM b,Z<|aD h,Z<|aD A] rfl
   ((fH (QA:=[Z (.lst bn),Z<|aD k,Z<|aD d,Y,Y,Y,Y,Y,Y,Y]) ?_).trans
   ((fH (QA:=[Z (.lst bs),Z<|aD k,Z<|aD d,Z<|aD<|1+l,Y,Y,Y,Y,Y,Y]) ?_).trans
   ((fH (QA:=[Z (.lst bv),Z<|aD k,Z<|aD d,Z<|aD<|1+l,Z<|aD<|1+a,Y,Y,Y,Y,Y]) ?_).trans
   ((fH<|J1 o p v w).trans
   ((fH as).trans
   ((fH (QA:=[Z (.lst ca),Z<|aD k,Z<|aD d,Z<|aD<|1+l,Z<|aD<|1+a,Z<|aP R,I,Z<|aM b,Y,Y]) ?_).trans
   ((fH bi).trans (i3 (I1 ⋯))))))))) rfl
  ·simp -implicitDefEqProofs [Q]
  ·simp -implicitDefEqProofs [am]
  ·have ce:1+l<1073741824:=⋯
   have ch:qp [aD 7,aD n]=Z (aD f):=by rw[Gy,<-q]
   have ci:qn [aD 1,aD f]=Z (aD g):=by rw[LY,<-s]
   simp -implicitDefEqProofs [ap,o,ce,<-an,ch,ci]
  ·simp -implicitDefEqProofs [a1,H,bd]
 ·let⟨J,hm,rfl⟩:=cO.mp bm;have cl:ib J:=by
   rcases Q6 J hm with rfl|hm
   ·exact y J (fe G)
   ·exact y J hm
  let⟨f4,f8,ga,ge⟩:=cl;exact⟨by show 0<=J.1+h;lia,by show J.1+h<60;lia,by show 0<=J.2+A;lia,by show J.2+A<60;lia⟩
end G
namespace L2
open Spec PyProof.Rows PySem.W
variable{Qw:Φ}{Qr:bz}{l:bc}
end L2
namespace L2
open Spec PyProof.Rows PySem.W
def A6:ai->ai
 |.im (.aR f)=>.cS f
 |v=>v
@[simp] theorem P9(f:List V):A6 (.im<|.aR f)=.cS f:=rfl
@[simp] theorem P6(f:List V):A6 (.im<|.tup f)=.im (.tup f):=rfl
end L2
namespace L2
section
variable{y QA Q4:a6}
variable{v:ai}
def qk{L:ay ai}(c:L y=Z (v,QA)):ag L y=Z (.bZ v,QA):=by unfold ag;rw[c];rfl
variable{f:bJ}
def xu{L:ay bJ}{c:ay (List bJ)}{w:List bJ}(a:L y=Z (f,QA))(b:c QA=Z (w,Q4)):ar L c y=Z (f::w,Q4):=by unfold ar;rw[a];show (c QA).map _=_;rw[b];rfl
def tL{Q8:ai->ai->Option ai}{Ro Rj:ay bJ}{H:bJ}{Q_ Rb:ai}(a:Ro y=Z (f,QA))(b:Rj QA=Z (H,Q4))(c:ew Q4 f=Z Q_)(d:ew Q4 H=Z Rb)(e:Q8 Q_ Rb=Z v):az Q8 Ro Rj y=Z (v,Q4):=by
 unfold az;rw[a];show (Rj QA).bind _=_;rw[b];show (ew Q4 f).bind _=_;rw[c];show (ew Q4 H).bind _=_;rw[d];show (Q8 Q_ Rb).map _=_;rw[e];rfl
variable{L:ay (List bJ)}{r:Nat}{M:List bJ}{I G:List ai}
def Mq{QE:dH}{s:ai}(a:L y=Z (M,QA))(b:M.length=r)(c:e3 M QA=Z (I,Q4))(d:QE I=Z (s,G)):bT r QE L y=Z (s,iu M G Q4):=by
 unfold bT;rw[a];show (if M.length=r then _ else _)=_;rw[aE b];show (e3 M QA).bind _=_;rw[c];show (QE I).map _=_;rw[d];rfl
def Lq{Q8:List ai->Option ai}(a:L y=Z (M,QA))(b:gA QA M=Z I)(c:Q8 I=Z v):b9 Q8 L y=Z (v,QA):=by
 unfold b9;rw[a];show (gA QA M).bind _=_;rw[b];show (Q8 I).map _=_;rw[c];rfl
variable{e:Bool}
def OB{L:ay ai}(d:L y=Z (.im<|.ax e,QA)):bu L y=Z (e,QA):=by unfold bu;rw[d];rfl
def Ml{L:ay Bool}(d:L y=Z (e,QA)):gD L y=Z (!e,QA):=by unfold gD;rw[d];rfl
def I5{L:ay bJ}(d:L y=Z (f,QA))(a:ew QA f=Z v)(b:oy v=Z e):fU L y=Z (e,QA):=by
 unfold fU;rw[d];show (ew QA f).bind _=_;rw[a];show (oy v).map _=_;rw[b];rfl
def za{L:ay ai}{c:fg}(d:L y=Z (v,QA))(a:c v QA=Z Q4):h9 L c y=Z (.bg,Q4):=by unfold h9;rw[d];show (c v QA).map _=_;rw[a];rfl
def sP{L:ay ai}(d:L y=Z (v,QA)):kc L y=Z (.bg,QA):=by unfold kc;rw[d];rfl
variable{Rr:a6}{a:Nat}
def yy{ty:ai->Bool}{bR:ai->List ai->Option (ai×ai)}{b m s c:ai}(d:y[a]?=Z (Z b))(e:ty b=X)(f:L y=Z (M,QA))(g:e3 M QA=Z (I,Q4))(h:Q4[a]?=Z (Z m))(i:bR m I=Z (s,c))(n:Q4.set a (Z c)=Rr):hb ty a bR L y=Z (s,Rr):=by
 subst n;unfold hb;rw[d];show (if ty b=X then _ else _)=_;rw[aE e,f];show (e3 M QA).bind _=_;rw[g];show (match Q4[a]? with|some (Z m)=>_|_=>Y)=_;rw[h];show (bR m I).map _=_;rw[i];rfl
def sy(a:L y=Z (M,QA))(b:e3 M QA=Z (I,Q4))(c:I.length<=100000)(n:tG I=v):dA L y=Z (v,Q4):=by
 unfold dA;rw[a];show (e3 M QA).bind _=_;rw[b];show (if _ then _ else _)=_;rw[aE c,n]
def Lf(a:L y=Z (M,QA))(b:e3 M QA=Z (I,Q4))(c:I.length<=100000)(n:ue I=v):eu L y=Z (v,Q4):=by
 unfold eu;rw[a];show (e3 M QA).bind _=_;rw[b];show (if _ then _ else _)=_;rw[aE c,n]
def u0{f:List V}{v:V}(c:f.length<100000):lr (.lst f) [.im v]=Z (.im .aT,.lst<|f++[v]):=aE c
def r9(a i:Int):d7 (.im<|.int a) (.im<|.int i)=Z (.im<|.ax<|decide (a=i)):=by
 show Z (ai.im<|.ax<|a==i)=_;by_cases c:a=i<;>simp[c]
variable{s:Option (mf×a6)}{e:bP}{m:ay Bool}
theorem m6{g:bP}(d:m y=Z (X,QA))(c:g QA=s):df m g e y=s:=(El d).trans c
theorem fj{g:bP}(d:m y=Z (aq,QA))(c:e QA=s):df m g e y=s:=(Bh d).trans c
theorem cp{L c:bP}(d:L y=Z (.bg,QA))(n:c QA=s):bC L c y=s:=(fH d).trans n
theorem kx{L:ay ai}(d:L y=Z (v,QA))(c:a<QA.length)(n:QA.set a (Z v)=Q4):bV a L y=Z (.bg,Q4):=(tw d c).trans (by rw[n])
variable{w:List V}{QY:fg}{o:Option (Nat×ai)}
theorem mO{L:js}{aR:mf}(d:L y=Z ((w,o),QA))(c:d5 QY e w QA=Z (aR,Q4))(n:kD o Q4=Rr):f9 L QY e y=Z (aR,Rr):=(pn d c).trans (by rw[n])
theorem ju{own:Nat}{QW:List Nat}{Q:js}{d:ay ai}{a:a6}{I:List V}(t:Q y=Z ((w,o),QA))(E:gx own QY m d w [] (i9 QW QA)=Z (I,a))(n:kD o (h1 QW a QA)=Rr):cR own QW Q QY m d y=Z (.lst I,Rr):=(l5 t E).trans (by rw[n])
variable{e g:ay Bool}
def Om(d:g y=Z (X,QA)):ff g e y=Z (X,QA):=by unfold ff;rw[d];rfl
variable{s:Option (Bool×a6)}
def ig(d:g y=Z (aq,QA))(c:e QA=s):ff g e y=s:=by unfold ff;rw[d];exact c
def jG(d:g y=Z (X,QA))(c:e QA=s):fu g e y=s:=by unfold fu;rw[d];exact c
def tY(d:g y=Z (aq,QA)):fu g e y=Z (aq,QA):=by unfold fu;rw[d];rfl
def BH{L:ay Bool}{e:Bool}(d:L y=Z (e,QA)):hu L y=Z (.im<|.ax e,QA):=by unfold hu;rw[d];rfl
variable{s:ai}
def es{QE:dH}(a:L y=Z (M,QA))(b:M.length=r)(c:e3 M QA=Z (I,Q4))(d:QE I=Z (s,G))(n:iu M G Q4=Rr):bT r QE L y=Z (s,Rr):=by rw[<-n];exact Mq a b c d
def qB{L:ay Bool}(d:L y=Z (X,QA)):gD L y=Z (aq,QA):=Ml d
def LK{f H:List V}(a:L y=Z (M,QA))(b:gA QA M=Z [.im (.tup f),.im<|.tup H]):pD L y=Z ((gb f H,Y),QA):=by
 unfold pD;rw[a];show (gA QA M).bind _=_;rw[b];rfl
def wG{L:ay bJ}{x c:ay (Option Int)}{R S:Option Int}{a:ai}(b:L y=Z (f,QA))(d:x QA=Z (R,Q4))(e:c Q4=Z (S,Rr))(g:ew Rr f=Z v)(h:nt v R S=Z a):j4 L x c y=Z (a,Rr):=by
 unfold j4;rw[b];show (x QA).bind _=_;rw[d];show (c Q4).bind _=_;rw[e];show (ew Rr f).bind _=_;rw[g];show (nt v R S).map _=_;rw[h];rfl
def gV{k:Nat}{QX:List Nat}{L:bP}(a:I.length=r)(d:L (I.map Z++List.replicate (k-r) Y)=Z (.et s,y))(b:h4 QX I y 0=G):d1 r k QX L I=Z (s,G):=qD y a d b
end
section
variable{y QA:a6}
variable{L:ay ai}{v:ai}
def bE(c:L y=Z (v,y)):ag L y=Z (.bZ v,y):=qk c
variable{f:bJ}
def cj{L:ay bJ}{c:ay (List bJ)}{w:List bJ}(a:L y=Z (f,y))(b:c y=Z (w,y)):ar L c y=Z (f::w,y):=xu a b
variable{Q8:ai->ai->Option ai}{Ro Rj:ay bJ}{H:bJ}{Q_ Rb:ai}
def de(a:Ro y=Z (f,y))(b:Rj y=Z (H,y))(c:ew y f=Z Q_)(d:ew y H=Z Rb)(e:Q8 Q_ Rb=Z v):az Q8 Ro Rj y=Z (v,y):=tL a b c d e
def eZ(a:Q8 Q_ Rb=Z v)(b:Ro y=Z (f,y):=by rfl)(c:Rj y=Z (H,y):=by rfl)(d:ew y f=Z Q_:=by rfl)(e:ew y H=Z Rb:=by rfl):az Q8 Ro Rj y=Z (v,y):=tL b c d e a
def eC{Q8:List ai->Option ai}{L:ay (List bJ)}{M:List bJ}{I:List ai}(a:L y=Z (M,y))(b:gA y M=Z I)(c:Q8 I=Z v):b9 Q8 L y=Z (v,y):=Lq a b c
variable{e:Bool}
def dw(d:L y=Z (.im<|.ax e,y)):bu L y=Z (e,y):=OB d
def ly{L:ay bJ}(d:L y=Z (f,y))(a:ew y f=Z v)(b:oy v=Z e):fU L y=Z (e,y):=I5 d a b
def kK{a:Nat}(d:L y=Z (v,y))(c:a<y.length)(n:y.set a (Z v)=QA):bV a L y=Z (.bg,QA):=kx d c n
end
end L2
namespace G
open L2
def gB{r k:Nat}(c:Nat.ble (r+1) k=X):r<k:=nc c
abbrev aN:=Int×Int
variable{e:aN}{R QC:List aN}
inductive ec (R:List aN) (h:aN):aN->Prop
 | self:ec R h h
 | step {g e:aN}:ec R h g->e∈R->e∈c2 g->ec R h e
def lX(R:List aN):Prop:=(R.Pairwise λg e=>bF (aa g) (aa e)=X)
def Mi(ao:QC.Nodup)(a:QC.length<=1000):∃R:List aN,gJ (QC.map aa)=Z (aP R)/\R.Perm QC/\lX R:=by
 have o:=uZ ao a;let⟨R,t,E⟩:=AM (iF<|QC.map aa);refine⟨R,?_,t,?_⟩
 ·unfold gJ;rw[aE (oU.mpr o),E]
 ·have:=tO o.ord.ao o.ord.iW;rw[E]at this;exact lG.mp this
structure lV(R:List aN)(e:aN)(QC F:List aN)(l:aN)(QM:List aN):Prop where
 ao:QC.Nodup
 km:e∈QC
 con:∀m∈QC,ec R e m
 dc:QC.length+ft R QC<=R.length+1
 wl:F.length<=QC.length
 eT:∀m∈F,m∈QC
 cl:∀m∈QC,m∉F->∀v∈c2 m,v∈R->v∈QC\/(m=l/\v∈QM)
abbrev gU(b:Option ai)(R:List aN)(e:aN)(QC F:List aN)(L:Option ai):a6:=[b,Z<|.im<|aa e,Z<|.aH<|en<|bR R,Z<|.aH<|bR QC,Z<|aP F,L]
def OU{m l:aN}{F QM:List aN}{b:Option ai}(y:R.length<=500)(k:l∈QC)(r:m∈c2 l)(Qr:lV R e QC F l (m::QM)):
  ∃n p,h8 (gU b R e QC F<|Z<|.im<|aa m)=Z (.bg,gU b R e n p<|Z<|.im<|aa m)/\lV R e n p l QM/\l∈n/\2*ft R n+p.length<=2*ft R QC+F.length:=by
 have g:(dC (en<|bR R)<|c3 m).isSome=decide (m∈R):=Dt R m;have o:(dC (bR QC)<|c3 m).isSome=decide (m∈QC):=DC QC m;have q:=lA m;have z:=Qr.dc;have A:=Qr.wl;by_cases t:m∈R
 ·by_cases E:m∈QC
  ·refine⟨QC,F,?_,⟨Qr.ao,Qr.km,Qr.con,Qr.dc,Qr.wl,Qr.eT,λf a h v j i=>?_⟩,k,a5 _⟩
   ·rw[dd t]at g;rw[dd E]at o;simp -implicitDefEqProofs [h8,kS,q,g,o]
   ·rcases Qr.cl f a h v j i with c|⟨c,T⟩
    ·exact .inl c
    ·rcases cu.mp T with rfl|T
     ·exact .inl E
     ·exact .inr ⟨c,T⟩
  ·rw[dd t]at g;rw[c0 E]at o;have J:=FD t E;refine⟨QC++[m],F++[m],?_,⟨?_,dO _ Qr.km,λf a=>?_,?_,by simp;exact Qr.wl,λf a=>?_,λf a h v j i=>?_⟩,dO _ k,by simp;lia⟩
   ·have s:=zO E;have aZ:(bR QC).length<100000:=by unfold bR;rw[bj];lia
    have bh:F.length<100000:=⋯
    simp -implicitDefEqProofs [h8,kS,q,g,o,s,aZ,bh,hO]
   ·exact dk.mpr ⟨Qr.ao,eY _ _,λf a H u d=>E (by rw[cK.mp u]at d;rw[<-d];exact a)⟩
   ·rcases dG.mp a with a|a
    ·exact Qr.con f a
    ·rw[cK.mp a];exact .step (Qr.con l k) t r
   ·rw[dx,fk];lia
   ·rcases dG.mp a with a|a
    ·exact dO _ (Qr.eT f a)
    ·exact dR _ a
   ·have w:f∈QC:=by
     rcases dG.mp a with a|a
     ·exact a
     ·exact absurd (dR _ a) h
    rcases Qr.cl f w (λx=>h<|dO _ x) v j i with c|⟨c,T⟩
    ·exact .inl (dO _ c)
    ·rcases cu.mp T with rfl|T
     ·exact .inl (dR _<|.head _)
     ·exact .inr ⟨c,T⟩
 ·refine⟨QC,F,?_,⟨Qr.ao,Qr.km,Qr.con,Qr.dc,Qr.wl,Qr.eT,λf a h v j i=>?_⟩,k,a5 _⟩
  ·rw[c0 t]at g;simp -implicitDefEqProofs [h8,kS,q,g]
  ·rcases Qr.cl f a h v j i with c|⟨c,T⟩
   ·exact .inl c
   ·rcases cu.mp T with rfl|T
    ·exact absurd i t
    ·exact .inr ⟨c,T⟩
theorem AF{R:List aN}{e l:aN}{b:Option ai}(d:R.length<=500):∀(QM:List aN) {QC F:List aN} (L:Option ai),l∈QC->(∀m∈QM,m∈c2 l)->lV R e QC F l QM->
  ∃a c h,d5 (bH 5) h8 (QM.map aa) (gU b R e QC F L)=Z (.bg,gU b R e a c h)/\lV R e a c l []/\2*ft R a+c.length<=2*ft R QC+F.length
 |[],QC,F,L,_,_,Qr=>⟨QC,F,L,rfl,Qr,a5 _⟩
 |m::QM,QC,F,L,i,g,Qr=>by
  let⟨Q0,u,j,k,n,o⟩:=OU (m:=m) (b:=b) d i (g m<|.head _) Qr;let⟨Q6,p,Rd,q,r,s⟩:=AF d QM (Z<|.im<|aa m) n (λf t=>g f<|.tail _ t) k;refine⟨Q6,p,Rd,?_,r,eG s o⟩;rw[cH,d5];dsimp only;rw[show bH 5 (.im<|aa m) (gU b R e QC F L)=Z (gU b R e QC F<|Z<|.im<|aa m) from rfl];show (h8 _).bind _=_;rw[j];exact q
def FR(f:ai)(R:List aN):Prop:=(f=aP R\/f=aM R)
def EU{f:ai}(x:FR f R)(D:R.length<=500):∃i:List aN,kG [f,.im<|aa e]=Z (aM i,[f,.im<|aa e])/\lX i/\(∀k,k∈i↔ec R e k)/\i.length<=R.length+1/\i.Nodup:=by
 have z:∀m∈R,∃QA Q4 Rr,bH 0 (.im<|aa m) (List.replicate 1 Y++i9 [] [Z f,Z<|.im<|aa e,Y,Y,Y,Y])=Z QA/\dN QA=Z (X,Q4)/\n_ Q4=Z (.im<|.tup [aa m,.ax X],Rr)/\Rr.drop 1=[]:=λm W=>⟨[Z (.im<|aa m)],_,[Z (.im<|aa m)],rfl,rfl,rfl,rfl⟩;have E:cR 1 [] (cN<|aj 0) (bH 0) dN G.n_ [Z f,Z<|.im<|aa e,Y,Y,Y,Y]=Z (.lst<|R.map λm=>.tup [aa m,.ax X],[Z f,Z<|.im<|aa e,Y,Y,Y,Y]):=by
  rcases x with rfl|rfl
  ·exact (l5 (w:=R.map aa) (o:=Z (0,aP R)) (QA:=[Z .dS,Z<|.im<|aa e,Y,Y,Y,Y]) rfl (iX _ (λm=>.tup [aa m,.ax X]) _ z ⋯)).trans rfl
  ·exact (l5 (w:=R.map aa) (o:=Y) (QA:=[Z (aM R),Z<|.im<|aa e,Y,Y,Y,Y]) rfl (iX _ (λm=>.tup [aa m,.ax X]) _ z ⋯)).trans rfl
 have r:((bR R).all λq=>V.keys 7 q.1)=X/\(bR R).length<=1000:=⟨vB R,by unfold bR;rw[bj];lia⟩;have H:bV 2 (b9 ij<|ar (ag<|cR 1 [] (cN<|aj 0) (bH 0) dN G.n_) aF) [Z f,Z<|.im<|aa e,Y,Y,Y,Y]=Z (.bg,[Z f,Z<|.im<|aa e,Z<|.aH<|en<|bR R,Y,Y,Y]):=by
  refine kK (v:=.aH (en<|bR R)) (eC (cj (bE E) rfl) rfl ?_) (gB rfl) rfl;simp -implicitDefEqProofs only[ll,mr,ij,uL,r.1,r.2,and_self,gv]
 have A:lV R e [e] [e] e []:=⟨eY _ _,.head _,λm a=>by rw[cK.mp a];exact .self,by
  have:R.countP (λm=>decide (m∉[e]))<=R.length:=DL;show 1+ft R [e]<=R.length+1;unfold ft;lia,a5 _,λm a=>a,λm a p=>absurd a p⟩
 let⟨QQ,I,⟨QC,l,L,rfl,Qr⟩⟩:=o9 (m:=pq) (e:=p_) (λk y=>∃QC F l L,y=gU (Z f) R e QC F L/\lV R e QC F l []/\2*ft R QC+F.length<=k) (λy=>∃QC l L,y=gU (Z f) R e QC [] L/\lV R e QC [] l [])
  (λk y J=>by
   let⟨QC,F,M,L,rfl,Qr,r⟩:=J;by_cases B:F=[]
   ·subst B;exact⟨aq,gU (Z f) R e QC [] L,rfl,(λj=>by cases j),λ_=>⟨QC,M,L,rfl,Qr⟩⟩
   ·let⟨h,l,rfl⟩:=wz B;have t:pq (gU (Z f) R e QC (h++[l]) L)=Z (X,gU (Z f) R e QC (h++[l]) L):=by
     have N:=m4 (h++[l]);have p:dW ((h++[l]).map aa) []=aq:=by
      cases h with
      |nil=>rfl
      |cons g s=>rfl
     have O:eB (aP<|h++[l]) (.lst [])=Z (.im<|.ax X):=by
      simp only[eB,N,p];rfl
     exact dw (eZ O)
    refine⟨X,_,t,λ_=>?_,(λj=>by cases j)⟩;have P:lV R e QC h l (c2 l):=⟨Qr.ao,Qr.km,Qr.con,Qr.dc,by have:=Qr.wl;simp at this;lia,λm a=>Qr.eT m<|dO _ a,λm a p v n Q=>by
     by_cases C:m=l
     ·subst C;exact .inr ⟨rfl,n⟩
     ·rcases Qr.cl m a (λj=>(dG.mp j).elim p λj=>C<|cK.mp j) v n Q with c|⟨_,c⟩
      ·exact .inl c
      ·cases c⟩
    let⟨Q6,u,Rd,S,U,ap⟩:=AF (b:=Z f) D (c2 l) L (Qr.eT l<|dR _<|.head _) (λm a=>a) P;refine⟨.bg,gU (Z f) R e Q6 u Rd,?_,.inl rfl,2*ft R Q6+u.length,?_,Q6,u,l,Rd,rfl,U,a5 _⟩
    ·unfold p_;refine mO (o:=Y) (w:=(c2 l).map aa) (QA:=gU (Z f) R e QC h L) ?_ S rfl;have al:((h++[l]).map aa).getLast?=Z (aa l):=by simp
     have n:((h++[l]).map aa).dropLast=h.map aa:=by simp
     have d:=pv l;simp -implicitDefEqProofs only[cN,ag,bT,ar,hb,x9,vl,hO,gv,qg,ll,zI,rb,al,n,mr,yJ,ey,jg,d];simp -implicitDefEqProofs [d,iS]
    ·simp at r;lia) 1000000 _ (gU (Z f) R e [e] [e] Y) ⟨[e],[e],e,Y,rfl,A,a5 _⟩ (by
    have:=A.dc;simp;simp at this;lia)
 let⟨i,am,T,up⟩:=Mi Qr.ao (by have:=Qr.dc;lia);refine⟨i,?_,up,λk=>T.mem_iff.trans ⟨Qr.con k,λc=>?_⟩,by rw[T.length_eq];have:=Qr.dc;lia,T.nodup_iff.mpr Qr.ao⟩
 ·have Qx:jl [.aH (bR QC)]=Z (aP i):=by
   show gJ ((bR QC).map λq=>.tup q.1)=Z (aP i);rw[uK];exact am
  unfold kG wY;exact gV (y:=gU (Z f) R e QC [] L) rfl (cp H<|cp (QA:=[Z f,Z<|.im<|aa e,Z<|.aH<|en<|bR R,Z<|.aH<|bR [e],Y,Y]) rfl<|cp (QA:=gU (Z f) R e [e] [e] Y) rfl<|cp I<|i3<|eC (cj (bE<|eC (cj rfl rfl) rfl Qx) rfl) rfl rfl) (by rcases x with rfl|rfl<;>rfl)
 ·induction c with
  |self=>exact Qr.km
  |step _ t n an=>
   rcases Qr.cl _ an (λj=>nomatch j) _ n t with c|⟨_,c⟩
   ·exact c
   ·cases c
end G
namespace L2
open Spec PyProof.Rows
variable{Qr:List V->ak->Prop}{l:bc}{Rc r a k:Nat}{o:a3}{g f:ak}{QC:List (List V)}{D:Bool->ah->Prop}{n:List V}{h:ah}{Qs:Array (Int×ae)}{QU:Array (Option Nat)}{QT:Type}{Qx:List Int}{c:aV}{b:Bool}{A:aQ}{w:Array Nat}
abbrev jo(w:Array Nat):Prop:=w.toList.Pairwise (· < ·)
def rE(s:jo w){a n:Nat}{v:Nat}(c:a<n)(e:n<w.size):w.getD a v<w.getD n v:=by
 have S:a<w.size:=o8 c e;have d:∀k (b:k<w.size),w.getD k v=w.toList[k]'⇑b:=λk b=>by simp[Array.getD,b]
 rw[d a S,d n e];exact mm.mp s a n _ _ c
theorem wh(w:Array Nat)(s:jo w)(i:Nat):∀(fuel R S:Nat),S-R<=fuel->R<=S->S<=w.size->(∀a,a<R->w.getD a i<i)->(∀a,S<=a->a<w.size->i<=w.getD a i)->
  (aQ.below.go w i fuel R S<=w.size/\(∀a,a<aQ.below.go w i fuel R S->w.getD a i<i)/\∀a,aQ.below.go w i fuel R S<=a->a<w.size->i<=w.getD a i)
 |0,R,S,t,E,f,g,e=>by
  have d:R=S:=⋯
  subst d;exact⟨f,g,e⟩
 |fuel+1,R,S,t,E,f,g,e=>by
  unfold aQ.below.go;by_cases c:R<S
  ·rw[aE c];dsimp only;by_cases b:w.getD ((R+S)/2) i<i
   ·rw[aE b];refine wh w s i fuel _ _ ⋯ ⋯ f (λa h=>?_) e;rcases e4 a ((R+S)/2) with T|T
    ·exact o8 (rE s T ⋯) b
    ·have:a=(R+S)/2:=⋯
     rw[this];exact b
   ·rw[aK b];refine wh w s i fuel _ _ ⋯ ⋯ ⋯ g (λa h j=>?_);rcases e4 ((R+S)/2) a with T|T
    ·exact mj (r5 (ux.mp b)<|rE s T j)
    ·have:a=(R+S)/2:=⋯
     rw[this];exact ux.mp b
  ·rw[aK c];have d:R=S:=⋯
   subst d;exact⟨f,g,e⟩
def FK(s:jo w)(i:Nat):aQ.below w i<=w.size/\(∀a,a<aQ.below w i->w.getD a i<i)/\∀a,aQ.below w i<=a->a<w.size->i<=w.getD a i:=
 wh w s i w.size 0 w.size ⋯ ⋯ ⋯ (λa c=>absurd c<|ui _) λa c T=>absurd T ⋯
def vX(s:jo w){a i:Nat}(c:w[a]?=Z i):aQ.below w i=a:=by
 let@⟨g,e,m⟩:=FK s i;let⟨@S,d⟩:=oN.mp c;have b:w.getD a i=i:=by simp[Array.getD,S,d]
 rcases mu (aQ.below w i) a with t|t|t
 ·have E:=m _ (a5 _) (o8 t S);have f:=rE s (v:=i) t S;omega
 ·exact t
 ·have:=e a t;omega
def Kj(s:jo w){i:Nat}(c:¬ (w[aQ.below w i]?=Z i)):jo (aQ.insertAt w (aQ.below w i) i):=by
 let@⟨g,e,m⟩:=FK s i;unfold jo;rw[Dy];refine zj.mpr ⟨ES (pf _ _) s,gH.mpr ⟨λH a=>?_,ES (uw _ _) s⟩,λf l H a=>?_⟩
 ·let⟨n,b,rfl⟩:=kL.mp a;rw[oG];have Qx:aQ.below w i+n<w.size:=by simp at b;lia
  have t:=m (aQ.below w i+n) (l8 _ _) Qx;have d:w.getD (aQ.below w i+n) i=w.toList[aQ.below w i+n]:=by simp[Array.getD,Qx]
  rw[d]at t;refine Nat.lt_of_le_of_ne t λh=>?_;rcases vd n with h0|h0
  ·subst h0;apply c;rw[oN];exact⟨⋯,by simpa using h.symm⟩
  ·have E:=rE s (v:=i) (EV (n:=aQ.below w i) h0) Qx;have o:=m (aQ.below w i) (a5 _) ⋯;rw[d]at E;exact absurd h (c1<|r5 o E)
 ·let⟨n,b,rfl⟩:=kL.mp l;rw[tT];have p:n<aQ.below w i:=by simp at b;lia
  have Qx:n<w.size:=⋯
  have t:=e n p;have d:w.getD n i=w.toList[n]:=by simp[Array.getD,Qx]
  rw[d]at t;rcases cu.mp a with rfl|a
  ·exact t
  ·let⟨k,q,rfl⟩:=kL.mp a;rw[oG];have j:aQ.below w i+k<w.size:=by simp at q;lia
   have E:=m (aQ.below w i+k) (l8 _ _) j;have u:w.getD (aQ.below w i+k) i=w.toList[aQ.below w i+k]:=by simp[Array.getD,j]
   rw[u]at E;exact e5 t E
structure jD(A:aQ)(led:Bool):Prop where
 rise:jo A.place
 nU:A.dummies=#[]
 led:A.led=led
def jD.Nr(c:jD A b)(e:Bool):jD {A with plain:=e} b:=⟨c.rise,c.nU,c.led⟩
def Ci(i:Nat):aQ.has #[] i=aq:=rfl
def M8(b:A.dummies=#[])(i:Nat):(∃a,A.slot i=.live a)\/(A.slot i=.empty/\¬ (A.place[aQ.below A.place i]?=Z i)):=by
 unfold aQ.slot;dsimp only;by_cases c:(A.place[aQ.below A.place i]? == Z i)=X
 ·rw[aE c];exact .inl ⟨_,rfl⟩
 ·rw[aK c,b,Ci];exact .inr ⟨rfl,λd=>c (by rw[d];exact kT _)⟩
def jD.put(c:jD A b){i:Nat}(a:¬ (A.place[aQ.below A.place i]?=Z i)):jD (A.put i).1 b:=by
 refine⟨Kj c.rise a,?_,c.led⟩;show (if aQ.has A.dummies i=X then _ else A.dummies)=#[];rw[c.nU,Ci];rfl
def M_{j m n:Nat}{p:Bool}{Qx:Array Int}{o:Array Nat}(d:aQ.laid j m n b p Qx=Z (A,o)):jD A b:=by
 unfold aQ.laid at d;cases c:aQ.layClean j Qx with
 |none=>rw[c]at d;cases d
 |some QU=>
  rw[c]at d;cases d;refine⟨?_,rfl,rfl⟩;show (List.map (λf:Nat×Nat=>f.1)<|List.filterMap (λi=>Option.map (λf=>(i,f))<|QU.getD i Y)<|range<|j+1).Pairwise (· < ·);rw[List.map_filterMap];refine NI _ (R:=(· < ·)) (λg e q f a H h=>?_) xg;cases k:QU.getD g Y with
  |none=>rw[k]at a;cases a
  |some J=>
   cases l:QU.getD e Y with
   |none=>rw[l]at h;cases h
   |some u=>
    rw[k]at a;rw[l]at h;cases a;cases h;exact q
def oh(k:Nat)(q:aQ.Probe):aQ.Probe:=(
 if q.more>0 then {q with j:=q.j+1,more:=q.more-1} else
 {q with j:=(aQ.leap k q.i q.perturb).1,more:=aQ.runEnd k (aQ.leap k q.i q.perturb).1-(aQ.leap k q.i q.perturb).1,i:=(aQ.leap k q.i q.perturb).1,perturb:=(aQ.leap k q.i q.perturb).2})
def n2(k a pt:Nat):aQ.Probe:=({j:=a,more:=aQ.runEnd k a-a,i:=a,perturb:=pt,dummy:=Y})
def b_(k:Nat)(c:Int):Nat->aQ.Probe
 |0=>n2 k (aQ.bits c%(k+1)) (aQ.bits c)
 |n+1=>oh k (b_ k c n)
def cV(k:Nat)(c:Int):Nat->Nat×Nat
 |0=>(aQ.bits c%(k+1),aQ.bits c)
 |p+1=>aQ.leap k (cV k c p).1 (cV k c p).2
theorem vE(k:Nat)(c:Int):∀n,(b_ k c n).dummy=Y
 |0=>rfl
 |n+1=>by
  rw[b_,oh];split
  ·exact vE k c n
  ·exact vE k c n
def Nn(k a:Nat):aQ.runEnd k a-a<=9:=by
 unfold aQ.runEnd;split<;>lia
theorem oE{k:Nat}{c:Int}{n a pt:Nat}(d:b_ k c n=n2 k a pt):∀s,s<=aQ.runEnd k a-a->b_ k c (n+s)={n2 k a pt with j:=a+s,more:=aQ.runEnd k a-a-s}
 |0,_=>d
 |s+1,b=>by
  show oh k (b_ k c<|n+s)=_;rw[oE d s ⋯,oh,aE (show aQ.runEnd k a-a-s>0 by lia)];rfl
def Pa{c:Int}{n pt:Nat}(d:b_ k c n=n2 k a pt):b_ k c (n+(aQ.runEnd k a-a)+1)=n2 k (aQ.leap k a pt).1 (aQ.leap k a pt).2:=by
 show oh k (b_ k c<|n+(aQ.runEnd k a-a))=_;rw[oE d _ (a5 _),oh,aK (show ¬ (aQ.runEnd k a-a-(aQ.runEnd k a-a)>0) by lia)];rfl
def fq(k:Nat)(c:Int):Nat->Nat
 |0=>0
 |p+1=>fq k c p+(aQ.runEnd k (cV k c p).1-(cV k c p).1)+1
theorem oA(k:Nat)(c:Int):∀p,b_ k c (fq k c p)=n2 k (cV k c p).1 (cV k c p).2
 |0=>rfl
 |p+1=>Pa (oA k c p)
theorem zi(k:Nat)(c:Int):∀p,fq k c p<=10*p
 |0=>a5 _
 |p+1=>by
  have:=zi k c p;have:=Nn k (cV k c p).1;show fq k c p+_+1<=_;lia
theorem D8(k:Nat)(c:Int):∀n,∃p s,n=fq k c p+s/\s<=aQ.runEnd k (cV k c p).1-(cV k c p).1
 |0=>⟨0,0,rfl,fo _⟩
 |n+1=>by
  let⟨p,@s,d,b⟩:=D8 k c n;by_cases a:s+1<=aQ.runEnd k (cV k c p).1-(cV k c p).1
  ·exact⟨p,s+1,⋯,a⟩
  ·exact⟨p+1,0,by show _=fq k c p+_+1+0;lia,fo _⟩
def ix(k:Nat):Nat->Nat->Nat
 |0,f=>f
 |n+1,f=>(ix k n f*5+1)%(k+1)
theorem pX(k:Nat)(g f:Nat):∀e,ix k (g+e) f=ix k e (ix k g f)
 |0=>rfl
 |e+1=>by
  show (ix k (g+e) f*5+1)%(k+1)=_;rw[pX k g f e];rfl
def sR(k:Nat):Nat->Nat->Nat->Nat
 |0,_,a=>a
 |n+1,f,a=>sR k n ((f*5+1)%(k+1)) (a ||| 2^f)
def Ho(k n f:Nat):ix k n ((f*5+1)%(k+1))=ix k (n+1) f:=by
 rw[Cu n 1,pX];rfl
theorem A3{k:Nat}:∀{r f H a:Nat},(sR k r f a).testBit H=X->a.testBit H=X\/∃n,n<r/\ix k n f=H
 |0,_,_,_,c=>.inl c
 |r+1,f,H,a,c=>by
  rcases A3 (r:=r) c with c|⟨n,t,E⟩
  ·rw[Nat.testBit_or,xb]at c;rcases c with c|c
   ·exact .inl c
   ·rw[Nat.testBit_two_pow,j1]at c;exact .inr ⟨0,w5 _,c⟩
  ·exact .inr ⟨n+1,Nat.succ_lt_succ t,by rw[<-Ho];exact E⟩
def wB(k:Nat):Bool:=(beq (sR k (k+1) 0 0) (2^(k+1)-1)&&beq (ix k (k+1) 0) 0)
def Iu(m:wB k=X){g f:Nat}(d:g<=k)(e:f<=k):∃n,n<=k/\ix k n g=f:=by
 rw[wB,cI]at m;have h:=CJ m.2;have all:∀H,H<=k->∃n,n<k+1/\ix k n 0=H:=λH i=>by
  have p:(sR k (k+1) 0 0).testBit H=X:=by
   rw[CJ m.1,Nat.testBit_two_pow_sub_one];exact dd (CY i)
  rcases A3 p with c|c
  ·rw[Nat.zero_testBit]at c;cases c
  ·exact c
 let⟨@a,t,rfl⟩:=all g d;let⟨@b,E,rfl⟩:=all f e;rcases e4 b a with c|c
 ·refine⟨b+(k+1-a),by omega,?_⟩;rw[<-pX,show a+(b+(k+1-a))=(k+1)+b by omega,pX,h]
 ·refine⟨b-a,by omega,?_⟩;rw[<-pX,show a+(b-a)=b by omega]
def hP(k:Nat):Prop:=(k=7\/k=31\/k=127\/k=511)
def hP.Mn(L:hP k):wB k=X:=by
 rcases L with rfl|rfl|rfl|rfl<;>decide +kernel
def Nh(c:Int):aQ.bits c<2^64:=by
 unfold aQ.bits;have t:=jQ c (show (2^64:Int)≠0 by decide);have E:=kv c (show (0:Int)<2^64 by decide);lia
theorem Ax(k:Nat)(c:Int):∀p,(cV k c p).2=aQ.bits c/32^p
 |0=>by rw[Nat.pow_zero,Nat.div_one];rfl
 |p+1=>by
  show (cV k c p).2/32=_;rw[Ax k c p,Nat.div_div_eq_div_mul];rfl
theorem w3(k:Nat)(c:Int):∀p,(cV k c p).1<=k
 |0=>pg (y7 _<|w5 _)
 |p+1=>pg (y7 _<|w5 _)
theorem Ff(k:Nat)(c:Int):∀n,cV k c (13+n)=(ix k n (cV k c 13).1,0)
 |0=>by
  have d:(cV k c 13).2=0:=by
   rw[Ax];exact Nat.div_eq_of_lt (o8 (Nh c) ∅)
  show cV k c 13=((cV k c 13).1,0);rw[<-d]
 |n+1=>by
  show aQ.leap k (cV k c<|13+n).1 (cV k c<|13+n).2=_;rw[Ff k c n];show ((ix k n (cV k c 13).1*5+1+0/32)%(k+1),0/32)=_;rw[Nat.zero_div,DA];rfl
def FV(L:hP k)(c:Int){f:Nat}(a:f<=k):∃p,p+1<aQ.turns k/\(cV k c p).1=f:=by
 let⟨@n,t,E⟩:=Iu L.Mn (w3 k c 13) a;exact⟨13+n,by unfold aQ.turns;lia,by rw[Ff];exact E⟩
def JV(L:hP k)(c:Int){f:Nat}(a:f<=k):∃n,n<10*aQ.turns k/\(b_ k c n).j=f:=by
 let⟨@p,t,E⟩:=FV L c a;refine⟨fq k c p,by have:=zi k c p;lia,?_⟩;rw[oA];exact E
def AE(c:a<=k):aQ.runEnd k a<=k:=by unfold aQ.runEnd;split<;>omega
def Bw(k:Nat)(c:Int)(n:Nat):(b_ k c n).j<=k:=by
 let⟨p,@s,rfl,a⟩:=D8 k c n;rw[oE (oA k c p) s a];have:=AE (w3 k c p);have d:aQ.runEnd k (cV k c p).1 >= (cV k c p).1:=by unfold aQ.runEnd;split<;>lia
 show (cV k c p).1+s<=k;lia
theorem vJ{QT:Type}[DecidableEq QT]:∀{x k:List QT},x.Nodup->(∀f∈x,f∈k)->x.length<=k.length
 |[],k,_,_=>fo _
 |g::x,k,ao,c=>by
  have a:=ic.mp ao;have p:=vJ (x:=x) (k:=k.erase g) a.2 λf b=>(List.mem_erase_of_ne (λd:f=g=>a.1<|d ▸ b)).mpr (c f<|.tail _ b);have e:=c g (.head _);rw[List.length_erase_of_mem e]at p;have:=xA e;rw[ey];lia
def kB(k:Nat)(hV:Nat->Prop)(c:Int)(i:Nat):Prop:=(∃n,(b_ k c n).j=i/\∀a,a<n->hV (b_ k c a).j)
def kB.mono{hV b:Nat->Prop}{c:Int}{i:Nat}(s:kB k hV c i)(a:∀f,hV f->b f):kB k b c i:=let ⟨n,d,g⟩:=s;⟨n,d,λe h=>a _<|g e h⟩
structure nH(A:aQ)(Qx:List Int):Prop where
 lU:hP A.mask
 len:A.place.size=Qx.length
 loose:A.place.size*5<A.mask*3
 le:∀i∈A.place.toList,i<=A.mask
 nF:∀q∈A.place.toList.zip Qx,kB A.mask (·∈A.place.toList) q.2 q.1
def hP.pos(L:hP k):7<=k/\k<=511/\k%2=1:=by rcases L with rfl|rfl|rfl|rfl<;>decide
def HJ(s:jo A.place){i:Nat}(c:i∈A.place.toList):∃a,A.slot i=.live a/\A.place[a]?=Z i:=by
 let⟨a,S,d⟩:=kL.mp c;have b:A.place[a]?=Z i:=by
  rw[<-eE,eb S,d]
 refine⟨a,?_,b⟩;unfold aQ.slot;dsimp only;rw[vX s b,b,aE<|kT _]
def NQ(e:A.dummies=#[]){i:Nat}(c:i∉A.place.toList):A.slot i=.empty:=by
 rcases M8 e i with ⟨a,d⟩|⟨d,_⟩
 ·unfold aQ.slot at d;dsimp only at d;split at d
  ·next p=>
   have b:=eq_of_beq p;refine absurd ?_ c;rw[<-eE]at b;exact fe b
  ·split at d<;>cases d
 ·exact d
def nH.some(j:nH A Qx)(c:Int):∃n,n<10*aQ.turns A.mask/\(b_ A.mask c n).j∉A.place.toList:=by
 have:∃f,f<=A.mask/\f∉A.place.toList:=by
  refine k7 λm=>?_;have p:=vJ (x:=range (A.mask+1)) (k:=A.place.toList) sV λf a=>k7 λb=>m ⟨f,pg<|e0.mp a,b⟩;rw[hq,dp]at p;have:=j.loose;lia
 let⟨@f,t,E⟩:=this;let⟨@n,Q0,Q6⟩:=JV j.lU c t;exact⟨n,Q0,by rw[Q6];exact E⟩
theorem DZ{A:aQ}(s:jo A.place)(l:A.dummies = #[])(f:Nat -> Int)(c:Int): ∀(fuel b:Nat),(∃n,b <= n /\ n<b+fuel /\ (b_ A.mask c n).j ∉ A.place.toList) ->
    ∃Q0,b <= Q0 /\ (∀n,b <= n -> n<Q0 -> ∃a,A.place[a]? = Z (b_ A.mask c n).j /\ f a ≠ c) /\
      ((aQ.probe.go A f c fuel (b_ A.mask c b)=Z (.empty (b_ A.mask c Q0).j Y) /\ (b_ A.mask c Q0).j ∉ A.place.toList) \/
        ∃a,aQ.probe.go A f c fuel (b_ A.mask c b)=Z (.candidate (b_ A.mask c Q0).j a<|b_ A.mask c<|Q0+1) /\ A.slot (b_ A.mask c Q0).j=.live a /\ A.place[a]? = Z (b_ A.mask c Q0).j /\ f a=c)
  |0,b,⟨n,g,e,_⟩ => absurd g ⋯
  |fuel+1,b,⟨n,g,e,m⟩ => by
    by_cases h:(b_ A.mask c b).j ∈ A.place.toList
    · let⟨@a,k,o⟩:=HJ s h
      by_cases p:f a=c
      · refine ⟨b,a5 _,λn t E => absurd t ⋯,.inr ⟨a, ?_,k,o,p⟩⟩
        unfold aQ.probe.go;rw [k];dsimp only;rw [aE (by rw [p]; exact kT _)];rfl
      · have ne:n ≠ b:=λd => m (d ▸ h)
        let⟨@Q0,t,E,q⟩:=DZ s l f c fuel (b+1) ⟨n,⋯,⋯,m⟩;have d:aQ.probe.go A f c (fuel+1) (b_ A.mask c b)=aQ.probe.go A f c fuel (b_ A.mask c<|b+1):=by
          rw [aQ.probe.go,k];dsimp only;rw [aK (by rw [p4]; exact p)];rfl
        refine ⟨Q0,⋯,λn u r => ?_,by rw [d]; exact q⟩;rcases e4 b n with L|L
        · exact E n L r
        · rw [show n=b by lia]; exact ⟨a,o,p⟩
    · refine ⟨b,a5 _,λn t E => absurd t ⋯,.inl ⟨?_,h⟩⟩
      unfold aQ.probe.go;rw [NQ l h];dsimp only;rw [vE]
def v5(w:Array QT)(q:Nat)(f:QT):(aQ.insertAt w q f).toList=w.toList.take q++f::w.toList.drop q:=Dy w q f
def qc{x:List QT}{q:Nat}{f H:QT}:H∈x.take q++f::x.drop q↔H=f\/H∈x:=by
 constructor
 ·intro c;rcases dG.mp c with c|c
  ·exact .inr (m7 c)
  ·rcases cu.mp c with c|c
   ·exact .inl c
   ·exact .inr (l_ c)
 ·rintro (rfl|c)
  ·exact dR _ (.head _)
  ·rw[<-e6 q x]at c;rcases dG.mp c with c|c
   ·exact dO _ c
   ·exact dR _ (.tail _ c)
def H6{Rk:Type}{g:List QT}{e:List Rk}(b:g.length=e.length)(q:Nat)(f:QT)(H:Rk):(g.take q++f::g.drop q).zip (e.take q++H::e.drop q)=(g.zip e).take q++(f,H)::(g.zip e).drop q:=by
 rw[D9 (by rw[fG,fG,b]),wK];have c:∀(q:Nat) (g:List QT) (e:List Rk),(g.take q).zip (e.take q)=(g.zip e).take q:=λq=>by
  induction q with
  |zero=>intro g e;rfl
  |succ q a=>intro g e;cases g with
   |nil=>rfl
   |cons f g=>cases e with
    |nil=>rfl
    |cons H e=>exact congrArg ((f,H)::·) (a g e)
 have d:∀(q:Nat) (g:List QT) (e:List Rk),(g.drop q).zip (e.drop q)=(g.zip e).drop q:=λq=>by
  induction q with
  |zero=>intro g e;rfl
  |succ q a=>intro g e;cases g with
   |nil=>rfl
   |cons f g=>cases e with
    |nil=>show (g.drop q).zip []=_;rw[EA];rfl
    |cons H e=>exact a g e
 rw[c,d]
def nH.put(j:nH A Qx){c:Int}{n:Nat}(l:(b_ A.mask c n).j∉A.place.toList)(g:∀a,a<n->(b_ A.mask c a).j∈A.place.toList):
  (∀i∈(A.put (b_ A.mask c n).j).1.place.toList,i<=A.mask)/\∀q∈(A.put (b_ A.mask c n).j).1.place.toList.zip (Qx.take (A.put (b_ A.mask c n).j).2++c::Qx.drop (A.put (b_ A.mask c n).j).2),kB A.mask (·∈(A.put (b_ A.mask c n).j).1.place.toList) q.2 q.1:=by
 have d:(A.put (b_ A.mask c n).j).1.place.toList=A.place.toList.take (A.put (b_ A.mask c n).j).2++(b_ A.mask c n).j::A.place.toList.drop (A.put (b_ A.mask c n).j).2:=v5 _ _ _;rw[d];refine⟨λi e=>?_,λq b=>?_⟩
 ·rcases qc.mp e with rfl|e
  ·exact Bw _ _ _
  ·exact j.le i e
 ·rw[H6 (by rw[dp];exact j.len)]at b;rcases qc.mp b with rfl|b
  ·exact⟨n,rfl,λa h=>qc.mpr<|.inr<|g a h⟩
  ·exact (j.nF q b).mono λf k=>qc.mpr (.inr k)
def kX(QU:Array (Option Nat))(i:Nat):Prop:=((QU.getD i<|Z 0).isSome=X)
theorem DD{k:Nat}(QU:Array (Option Nat))(c:Int):∀(fuel p:Nat),(∀a,a<fq k c p->kX QU (b_ k c a).j)->(∃b,p<=b/\b<p+fuel/\¬ kX QU (cV k c b).1)->
  ∃i,aQ.layClean.free k QU fuel (cV k c p).1 (cV k c p).2=Z i/\i<=k/\¬ kX QU i/\kB k (kX QU) c i
 |0,p,_,⟨b,g,e,_⟩=>absurd g ⋯
 |fuel+1,p,f,⟨b,g,e,m⟩=>by
  unfold aQ.layClean.free;have le:aQ.runEnd k (cV k c p).1<=k:=AE (w3 k c p);have Rz:(cV k c p).1<=aQ.runEnd k (cV k c p).1:=by unfold aQ.runEnd;split<;>lia
  cases h:(range<|aQ.runEnd k (cV k c p).1+1-(cV k c p).1).find? (λn=>(QU.getD ((cV k c p).1+n)<|Z 0).isNone) with
  |some n=>
   dsimp only;rw[List.find?_range_eq_some]at h;let@⟨t,E,q⟩:=h;have r:n<aQ.runEnd k (cV k c p).1+1-(cV k c p).1:=e0.mp E;refine⟨_,rfl,⋯,?_,fq k c p+n,?_,λa o=>?_⟩
   ·unfold kX;intro z;rw[Option.isNone_iff_eq_none]at t;rw[t]at z;cases z
   ·rw[oE (oA k c p) n ⋯]
   ·rcases e4 a (fq k c p) with z|z
    ·exact f a z
    ·have d:a=fq k c p+(a-fq k c p):=⋯
     rw[d,oE (oA k c p) (a-fq k c p) ⋯];have:=q (a-fq k c p) ⋯;show (QU.getD ((cV k c p).1+(a-fq k c p))<|Z 0).isSome=X;cases l:QU.getD ((cV k c p).1+(a-fq k c p)) (Z 0) with
     |none=>rw[l]at this;cases this
     |some _=>rfl
  |none=>
   dsimp only;rw[List.find?_range_eq_none]at h;have hV:∀n,n<aQ.runEnd k (cV k c p).1+1-(cV k c p).1->kX QU ((cV k c p).1+n):=λn f=>by
    have:=h n f;unfold kX;cases l:QU.getD ((cV k c p).1+n) (Z 0) with
    |none=>rw[l]at this;cases this
    |some _=>rfl
   have ne:b≠p:=λd=>m (by rw[d];exact hV 0 ⋯);refine DD QU c fuel (p+1) (λa o=>?_) ⟨b,⋯,⋯,m⟩;rcases e4 a (fq k c p) with z|z
   ·exact f a z
   ·have s:a<fq k c p+(aQ.runEnd k (cV k c p).1-(cV k c p).1)+1:=o;have d:a=fq k c p+(a-fq k c p):=⋯
    rw[d,oE (oA k c p) (a-fq k c p) ⋯];exact hV _ ⋯
structure k0(k:Nat)(QU:Array (Option Nat))(QF:List Nat)(Qx:List Int):Prop where
 size:QU.size=k+1
 len:QF.length=Qx.length
 ao:QF.Nodup
 le:∀i∈QF,i<=k
 own:∀(i n:Nat),QU[i]?=Z (Z n)↔QF[n]?=Z i
 nF:∀q∈QF.zip Qx,kB k (·∈QF) q.2 q.1
def k0.hV{QF:List Nat}(G:k0 k QU QF Qx){i:Nat}(e:i<=k):kX QU i↔i∈QF:=by
 have c:i<QU.size:=by rw[G.size];lia
 unfold kX;rw[show QU.getD i (Z 0)=QU[i] by simp[Array.getD,c]];have d:QU[i]?=Z QU[i]:=mA c;constructor
 ·intro a;let⟨@n,b⟩:=zd.mp a;rw[b]at d;exact fe ((G.own i n).mp d)
 ·intro a;let⟨@n,b⟩:=tS a;have:=(G.own i n).mpr b;rw[d]at this;rw[Option.some.inj this];rfl
def k0.step{k:Nat}(L:hP k){QU:Array (Option Nat)}{QF:List Nat}{Qx:List Int}(G:k0 k QU QF Qx)(E:Qx.length<=k)(c:Int):
  ∃i,aQ.layClean.free k QU (aQ.turns k) (aQ.bits c%(k+1)) (aQ.bits c)=Z i/\k0 k (QU.setIfInBounds i<|Z Qx.length) (QF++[i]) (Qx++[c]):=by
 have room:∃f,f<=k/\f∉QF:=by
  refine k7 λm=>?_;have p:=vJ (x:=range (k+1)) (k:=QF) sV λf j=>k7 λa=>m ⟨f,pg<|e0.mp j,a⟩;rw[hq,G.len]at p;lia
 let⟨@f,r,w⟩:=room;let⟨@p,F,y⟩:=FV L c r;let⟨@i,z,s,A,B⟩:=DD (k:=k) QU c (aQ.turns k) 0 (λt o=>absurd o<|ui _) ⟨p,fo _,⋯,by rw[y];exact λa=>w<|(G.hV r).mp a⟩;have u:i∉QF:=λa=>A ((G.hV s).mpr a);have C:i<QU.size:=by rw[G.size];lia
 refine⟨i,z,by rw[Array.size_setIfInBounds,G.size],by rw[dx,dx,G.len];rfl,?_,?_,λv n=>?_,?_⟩
 ·exact dk.mpr ⟨G.ao,eY _ _,λg b e D d=>u (by rw[<-cK.mp D,<-d];exact b)⟩
 ·intro g b;rcases dG.mp b with b|b
  ·exact G.le g b
  ·rw[cK.mp b];exact s
 ·rw[Array.getElem?_setIfInBounds];by_cases d:i=v
  ·subst d;rw[aE rfl,aE C];constructor
   ·intro a;cases a;rw[<-G.len,jw<|a5 _,ur];rfl
   ·intro a;rcases e4 n QF.length with l|l
    ·rw[iA l]at a;exact absurd (fe a) u
    ·rw[jw l]at a;have:n-QF.length=0:=by
      have:=(e9.mp a).1;rw[fk]at this;lia
     rw[show n=Qx.length by rw[<-G.len];lia]
  ·rw[aK d,G.own v n];rcases e4 n QF.length with l|l
   ·rw[iA l]
   ·rw[jw l,r_ l];constructor
    ·intro a;cases a
    ·intro a;have:=fe a;exact absurd (cK.mp this) (λa=>d a.symm)
 ·intro q h;rw[D9 G.len]at h;rcases dG.mp h with h|h
  ·exact (G.nF q h).mono λf j=>dO _ j
  ·rw[wK,List.zip_nil_left]at h;rw[cK.mp h];let⟨@n,d,g⟩:=B;exact⟨n,d,λt o=>dO _<|(G.hV<|Bw _ _ _).mp<|g t o⟩
theorem Bv{k:Nat}(L:hP k):∀(cM Qx:List Int) (QU:Array (Option Nat)) (QF:List Nat),k0 k QU QF Qx->(Qx++cM).length<=k->
  ∃a b,cM.foldl (λ(j:Option (Array (Option Nat)×Nat)) c=>do
   let (f,n) <-j
   let i <-aQ.layClean.free k f (aQ.turns k) (aQ.bits c%(k+1)) (aQ.bits c)
   pure (f.setIfInBounds i<|Z n,n+1)) (Z (QU,Qx.length))=Z (a,(Qx++cM).length)/\k0 k a b (Qx++cM)
 |[],Qx,QU,QF,G,_=>⟨QU,QF,by rw[cC];rfl,by rw[cC];exact G⟩
 |c::cM,Qx,QU,QF,G,g=>by
  let⟨@i,d,l⟩:=G.step L (by rw[dx]at g;lia) c;let⟨a,@b,e,h⟩:=Bv L cM (Qx++[c]) _ _ l (by rw[bA];exact g);rw[bA]at e h;refine⟨a,b,?_,h⟩;rw[lb];rw[show (Qx++[c]).length=Qx.length+1 from dx]at e;refine Eq.trans (congrArg (λm=>List.foldl _ m cM) ?_) e;show (aQ.layClean.free k QU (aQ.turns k) (aQ.bits c%(k+1))<|aQ.bits c).bind _=_;rw[d];rfl
def xh(L:hP k)(Qx:Array Int)(b:Qx.size<=k):∃QU QF,aQ.layClean k Qx=Z QU/\k0 k QU QF Qx.toList:=by
 have e:k0 k (Array.replicate (k+1) Y) [] []:=by
  refine⟨Array.size_replicate,rfl,gY,λ_ c=>(kq c).elim,λi n=>⟨λa=>?_,λa=>?_⟩,λ_ c=>(kq c).elim⟩
  ·have:=(oN.mp a).2;rw[Array.getElem_replicate]at this;cases this
  ·simp at a
 let⟨QU,@QF,d,G⟩:=Bv L Qx.toList [] _ _ e (by rw[uX,dp];exact b);refine⟨QU,QF,?_,G⟩;unfold aQ.layClean;rw[<-Array.foldl_toList];exact congrArg (Option.map (·.1)) d
def LJ{q:Nat×Nat}:q∈(range<|k+1).filterMap (λi=>(QU.getD i Y).map (i,·))↔q.1<=k/\QU[q.1]?=Z (Z q.2):=by
 rw[tp];constructor
 ·rintro⟨i,t,E⟩;let⟨@n,b,rfl⟩:=cw.mp E;refine⟨pg<|e0.mp t,?_⟩;show QU[i]?=Z (Z n);by_cases a:i<QU.size
  ·rw[show QU.getD i Y=QU[i] by simp[Array.getD,a]]at b;rw[mA a,b]
  ·rw[show QU.getD i Y=Y by simp[Array.getD,a]]at b;cases b
 ·rintro⟨t,E⟩;refine⟨q.1,e0.mpr<|CY t,?_⟩;let⟨@a,d⟩:=oN.mp E;rw[show QU.getD q.1 Y=QU[q.1] by simp[Array.getD,a],d];rfl
theorem zF{QT Rk:Type}:∀{x:List (QT×Rk)},(x.map (·.1)).Nodup->(∀g∈x,∀e∈x,g.2=e.2->g.1=e.1)->(x.map (·.2)).Nodup
 |[],_,_=>gY
 |f::x,c,a=>by
  rw[cH]at c ⊢;have T:=ic.mp c;refine ic.mpr ⟨λh=>?_,zF T.2 λg i e j=>a g (.tail _ i) e<|.tail _ j⟩;let⟨@H,b,d⟩:=cO.mp h;have:=a H (.tail _ b) f (.head _) d;exact T.1 (by rw[<-this];exact Bc b)
theorem Ay{QT Rk RE:Type}(C:QT->Rk)(L:QT->RE):∀x:List QT,(x.map C).zip (x.map L)=x.map λf=>(C f,L f)
 |[]=>rfl
 |f::x=>congrArg (_::·) (Ay C L x)
def LO{l:Nat}(L:hP (aQ.sizeAbove l-1))(B:Qs.size*5<(aQ.sizeAbove l-1)*3){b:Bool}(n:A.led=b):
  ∃QZ v,A.relaid (Qs.map (·.1)) l=Z (QZ,v)/\v.toList.Perm (range Qs.size)/\jD QZ b/\nH QZ ((v.filterMap (Qs[·]?)).toList.map (·.1)):=by
 let⟨QU,@QF,d,G⟩:=xh L (Qs.map (·.1)) (by rw[vU];lia);generalize C:aQ.sizeAbove l-1=k at *;have r:A.relaid (Qs.map (·.1)) l=Z ({mask:=k,place:=(((range<|k+1).filterMap λi=>(QU.getD i Y).map (i,·)).map (·.1)).toArray,dummies:=#[],finger:=A.finger,led:=A.led,moves:=A.movedTo k,plain:=A.plain},(((range<|k+1).filterMap λi=>(QU.getD i Y).map (i,·)).map (·.2)).toArray):=by
  unfold aQ.relaid aQ.laid;rw[C,d];rfl
 have j:=λ(q:Nat×Nat)=>LJ (k:=k) (QU:=QU) (q:=q);have s:(((range<|k+1).filterMap λi=>(QU.getD i Y).map (i,·)).map (·.1)).Pairwise (· < ·):=by
  have:=(M_ (A:=_) (o:=_) r);exact this.rise
 generalize D:(range<|k+1).filterMap (λi=>(QU.getD i Y).map (i,·))=Qz at r j s;have QK:∀q∈Qz,QF[q.2]?=Z q.1:=λq h=>(G.own _ _).mp ((j q).mp h).2;have lt:∀q∈Qz,q.2<Qs.size:=λq h=>by
  have:=(e9.mp<|QK q h).1;rw[G.len,dp,vU]at this;exact this
 have w:(Qz.map (·.1)).Nodup:=s.imp λc=>c1 c;have x:(Qz.map (·.2)).Nodup:=zF w λg F e H d=>by
  have t:=QK g F;have E:=QK e H;rw[d]at t;exact Option.some.inj (t.symm.trans E)
 have perm:(Qz.map (·.2)).Perm (range Qs.size):=by
  refine (vz x sV).mpr λf=>?_;rw[e0];constructor
  ·intro c;let⟨@q,h,rfl⟩:=cO.mp c;exact lt q h
  ·intro c;have m:f<QF.length:=by rw[G.len,dp,vU];exact c
   have t:QF[f]?=Z QF[f]:=eb m;exact cO.mpr ⟨(QF[f],f),(j _).mpr ⟨G.le _<|sE m,(G.own _ _).mpr t⟩,rfl⟩
 have y:Qz.length=Qs.size:=by
  have:=perm.length_eq
  rwa [bj,hq]at this
 have z:((Qz.map (·.2)).filterMap (Qs[·]?)).map (·.1)=Qz.map λq=>(Qs.getD q.2 (0,.none)).1:=by
  clear j s QK w x perm y r D;induction Qz with
  |nil=>rfl
  |cons q Qz I=>
   have h:=lt q (.head _);rw[cH,List.filterMap_cons_some<|mA h,cH,cH,I λp u=>lt p<|.tail _ u];congr 1;simp[Array.getD,h]
 refine⟨_,_,r,?_,⟨?_,rfl,n⟩,⟨L,?_,?_,?_,?_⟩⟩
 ·exact perm
 ·exact s
 ·rw[wm];show (Qz.map (·.1)).toArray.size=(((Qz.map (·.2)).filterMap (Qs[·]?)).map (·.1)).length;rw[z,cB,bj,bj]
 ·show (Qz.map (·.1)).toArray.size*5<k*3;rw[cB,bj,y];exact B
 ·intro i J;let⟨@q,h,rfl⟩:=cO.mp J;exact ((j q).mp h).1
 ·rw[wm];show ∀q∈(Qz.map (·.1)).zip (((Qz.map (·.2)).filterMap (Qs[·]?)).map (·.1)),kB k (·∈Qz.map (·.1)) q.2 q.1;rw[z,Ay];intro q h;let⟨@p,u,rfl⟩:=cO.mp h;have t:=QK p u;have E:((Qs.map (·.1)).toList)[p.2]?=Z (Qs.getD p.2 (0,.none)).1:=by
   have:=lt p u;rw[eE,Array.getElem?_map,mA this];simp[Array.getD,this]
  have M:(p.1,(Qs.getD p.2 (0,.none)).1)∈QF.zip (Qs.map (·.1)).toList:=by
   refine fe (i:=p.2) ?_;rw[t7];exact⟨t,E⟩
  refine (G.nF _ M).mono λf m=>?_;let⟨@n,N⟩:=tS m;exact cO.mpr ⟨(f,n),(j _).mpr ⟨G.le f m,(G.own _ _).mpr N⟩,rfl⟩
def K3(L:hP k)(t:r*5<k*3)(E:(r+1)*5 >= k*3)(a:r+1<=300):hP (aQ.sizeAbove (aQ.grown<|r+1)-1)/\(r+1)*5<(aQ.sizeAbove (aQ.grown<|r+1)-1)*3/\aQ.sizeAbove (aQ.grown<|r+1)<=512:=by
 rcases L with rfl|rfl|rfl|rfl
 ·rw[show r=4 by lia];exact⟨.inr (.inl ∅),by decide,by decide⟩
 ·rw[show r=18 by lia];exact⟨.inr (.inr (.inl ∅)),by decide,by decide⟩
 ·rw[show r=76 by lia];exact⟨.inr (.inr (.inr ∅)),by decide,by decide⟩
 ·lia
section
variable{Qy:bz}{l:bc}
theorem zN:∀(r:Nat) {O:bl}{Qt:ae->ah->Prop}{h:ah}{v:V}{u:ae}{D:Bool->ah->Prop},V.key r v=X->dr h.heap v u->(∀e,D e h)->wpAny (aO Qy l) O (sg r u) D Qt h
 |r,O,Qt,h,.int a,u,D,_,b,c=>by
  let⟨@A,rfl⟩:=b;rw[show sg r (.int a A)=pure X from by cases r<;>rfl];exact aS (c _)
 |r,O,Qt,h,.str a,u,D,_,b,c=>by
  let⟨@A,rfl⟩:=b;rw[show sg r (.str a A)=pure aq from by cases r<;>rfl];exact aS (c _)
 |r+1,O,Qt,h,.tup I,u,D,n,b,c=>by
  let⟨g,o,QL,@k,rfl,i,m,p,S⟩:=b;have q:h.TypeIs (.ref g) "tuple" := ⟨o,i,m⟩;unfold sg;refine av (nA q rd.lookup ?_);show wpAny _ _ (oW (.ref g) >>= _) _ _ h;refine av (hj i p ?_);refine av ?_;show wpAny _ _ (forIn QL _ _) _ _ h;rw[<-sZ];rw[V.key]at n;refine m_ _ (λcM s Qp=>Qp=h/\∃left,V.keys r left=X/\du h.heap left cM) _ ?_ ?_ _ _ ⟨rfl,I,n,S⟩
  ·rintro u cM s Qp ⟨rfl,left,f,j⟩;cases left with
   |nil=>cases (show u::cM=[] from j)
   |cons v left=>
    let⟨y,@Ra,d,t,w⟩:=j;cases d;rw[V.keys,cI]at f;refine av (zN r f.1 t λe=>?_);cases e
    ·show wpAny _ _ (pure<|ForInStep.done _) _ _ _;exact aS (aS<|c _)
    ·show wpAny _ _ (pure<|ForInStep.yield _) _ _ _;exact aS ⟨rfl,left,f.2,w⟩
  ·rintro⟨x,z⟩ Qp ⟨rfl,W⟩;cases x with
   |none=>exact aS (c _)
   |some e=>exact aS (c _)
 |_,_,_,_,.aT,_,_,n,_,_=>by cases ‹Nat›<;>cases n
 |_,_,_,_,.ax _,_,_,n,_,_=>by cases ‹Nat›<;>cases n
 |_,_,_,_,.fn _,_,_,n,_,_=>by cases ‹Nat›<;>cases n
 |_,_,_,_,.aR _,_,_,n,_,_=>by cases ‹Nat›<;>cases n
 |_,_,_,_,.fd,_,_,n,_,_=>by cases ‹Nat›<;>cases n
 |0,_,_,_,.tup _,_,_,n,_,_=>by cases n
theorem wb:∀(r:Nat) {O:bl}{Qt:ae->ah->Prop}{h:ah}{v:V}{u:ae}{D:Bool->ah->Prop},V.key r v=X->dr h.heap v u->D aq h->wpAny (aO Qy l) O (uC r u) D Qt h
 |r,O,Qt,h,.int a,u,D,_,b,c=>by
  let⟨@A,rfl⟩:=b;rw[show uC r (.int a A)=pure aq from by cases r<;>rfl];exact aS c
 |r,O,Qt,h,.str a,u,D,_,b,c=>by
  let⟨@A,rfl⟩:=b;rw[show uC r (.str a A)=pure aq from by cases r<;>rfl];exact aS c
 |r+1,O,Qt,h,.tup I,u,D,n,b,c=>by
  let⟨g,o,QL,@k,rfl,i,m,p,S⟩:=b;have q:h.TypeIs (.ref g) "tuple" := ⟨o,i,m⟩;unfold uC;refine av (wpAny_typeOf q ?_);dsimp only;rw[aE (show ("tuple" == "tuple")=X by decide)];refine av (aS ?_);simp only[nI,gu,e1];refine av (hj i p ?_);dsimp only;refine av ?_;show wpAny _ _ (forIn QL _ _) _ _ h;rw[<-sZ];rw[V.key]at n;refine m_ _ (λcM s Qp=>s.1=Y/\Qp=h/\∃left,V.keys r left=X/\du h.heap left cM) _ ?_ ?_ _ _ ⟨rfl,rfl,I,n,S⟩
  ·rintro u cM s Qp ⟨e,rfl,left,f,j⟩;cases left with
   |nil=>cases (show u::cM=[] from j)
   |cons v left=>
    let⟨x,@Ra,d,t,w⟩:=j;cases d;rw[V.keys,cI]at f;refine av (wb r f.1 t ?_);simp only[gu,e1];exact aS ⟨rfl,rfl,left,f.2,w⟩
  ·rintro⟨y,z⟩ Qp ⟨e,rfl,W⟩;simp only at e;subst e;exact aS c
 |_,_,_,_,.aT,_,_,n,_,_=>by cases ‹Nat›<;>cases n
 |_,_,_,_,.ax _,_,_,n,_,_=>by cases ‹Nat›<;>cases n
 |_,_,_,_,.fn _,_,_,n,_,_=>by cases ‹Nat›<;>cases n
 |_,_,_,_,.aR _,_,_,n,_,_=>by cases ‹Nat›<;>cases n
 |_,_,_,_,.fd,_,_,n,_,_=>by cases ‹Nat›<;>cases n
 |0,_,_,_,.tup _,_,_,n,_,_=>by cases n
def N2{O:bl}{Qt:ae->ah->Prop}(b:(d8 Qy l).is h.heap n f){U:List ae}(g:∀u∈U,∃e a,u=.ref e/\(d8 Qy l).is h.heap a e)(c:D aq h):
  wpAny (aO Qy l) O (EM (.ref f) U) D Qt h:=by
 unfold EM;refine av ?_;refine m_ _ (λcM s Qp=>s.1=Y/\Qp=h/\∀u∈cM,∃e a,u=.ref e/\(d8 Qy l).is h.heap a e) _ ?_ ?_ _ _ ⟨rfl,rfl,g⟩
 ·rintro u cM s Qp ⟨i,rfl,j⟩;let⟨e,@a,rfl,d⟩:=j u (.head _);have k:∀u∈cM,∃e a,u=.ref e/\(d8 Qy l).is Qp.heap a e:=λu g=>j u (.tail _ g);dsimp only;cases o:(f==e) with
  |true=>
   simp only[z1,gv];exact aS ⟨rfl,rfl,k⟩
  |false=>
   simp only[BF];rw[aK (show ¬ ((CN (ae.ref f)&&CN (ae.ref e))=X) from λm=>dv m)];refine av (td 8 (v:=.tup _) b.1 b.2 ?_);simp only[nI,gu,e1];refine av (td 8 (v:=.tup _) d.1 d.2 ?_);simp only[nI,gu,e1];refine av (wb 8 (v:=.tup _) b.1 b.2 ?_);simp only[gu,e1];refine av (wb 8 (v:=.tup _) d.1 d.2 ?_);simp only[gu,e1];exact aS ⟨rfl,rfl,k⟩
 ·rintro⟨p,q⟩ Qp ⟨i,rfl,W⟩;simp only at i;subst i;exact aS c
end
section
variable(l:bc)(Qr:List V->ak->Prop)
def v7(a:List V×Int×ae):Prop:=(∃e,a.2.2=.ref e/\a.2.1=di l (.tup a.1)/\Qr a.1 e)
structure ko(Qs:Array (Int×ae))(A:aQ)(b:Bool)(QC:List (List V)):Prop where
 qJ:∃M:List (List V×Int×ae),M.map (·.2)=Qs.toList/\(M.map (·.1)).Perm QC/\∀z∈M,v7 l Qr z
 tab:jD A b
 bf:nH A (Qs.toList.map (·.1))
 ao:QC.Nodup
def gr(c:aV)(g:ak)(b:Bool)(QC:List (List V)):Prop:=(∃o Qs Rc A,c.get? g=Z o/\o.ExactSet/\o.data=.set Qs Rc A/\ko l Qr Qs A b QC)
end
section
variable{Qy:bz}{l:bc}{Qr:List V->ak->Prop}{O:bl}{Qt:ae->ah->Prop}
def ko.size(y:ko l Qr Qs A b QC):A.place.size=Qs.size:=by
 rw[y.bf.len,bj,dp]
def ko.fit(y:ko l Qr Qs A b QC):A.fits Qs.size=X:=by
 have:=y.bf.loose;unfold aQ.fits aQ.fill;rw[y.tab.nU,y.size,cI,p4,j1];rw[y.size]at this;exact⟨rfl,by show Qs.size+0<=_;lia⟩
def ko.num(y:ko l Qr Qs A b QC):Qs.size=QC.length:=by
 let⟨@M,t,E,W⟩:=y.qJ;rw[<-E.length_eq,bj,<-dp,<-t,bj]
def Et(s:jo w){a b i:Nat}(g:w[a]?=Z i)(e:w[b]?=Z i):a=b:=by
 rw[<-vX s g,<-vX s e]
def Lo{ay:gT}{m:Bool}{k:dD Bool}{J s:dD QT}{D:QT->ah->Prop}(t:∀a:Bool->ah->Prop,a aq h->wpAny ay O k a Qt h)(E:wpAny ay O s D Qt h):
  wpAny ay O (if m=X then (do let e <-k;if e=X then J else s) else s) D Qt h:=by
 cases m
 ·rw[aK dv];exact E
 ·rw[aE rfl];refine av (t _ ?_);rw[aK dv];exact E
theorem BD{g f:ak}{n:List V}{b:Bool}{QC:List (List V)}{o:a3}{Qs:Array (Int×ae)}{Rc:Nat}{A:aQ}{h:ah}{D:SetFound->ah->Prop}{M:List (List V×Int×ae)}(cd:O.units+20<bK)(I:h.heap.get? g=Z o)(J:o.data=.set Qs Rc A)(y:ko l Qr Qs A b QC)(P:(d8 Qy l).is h.heap n f)(Q:∀p e,Qr p e->(d8 Qy l).is h.heap p e)(C:M.map (·.2)=Qs.toList)(R:(M.map (·.1)).Perm QC)(T:∀z∈M,v7 l Qr z)(a1:n∈QC->D (.there Y) h)(a2:n∉QC->∀U,(b_ A.mask (di l<|.tup n) U).j∉A.place.toList->(∀c,c<U->(b_ A.mask (di l<|.tup n) c).j∈A.place.toList)->D (.free (b_ A.mask (di l<|.tup n) U).j aq) h){s:Nat}(F:(b_ A.mask (di l<|.tup n) s).j∉A.place.toList)(ce:s<10*aQ.turns A.mask):
  ∀(fuel k:Nat) (N:Option aQ.Probe),N.getD (A.probeStart<|di l<|.tup n)=b_ A.mask (di l<|.tup n) k->s<k+fuel->(∀c,c<k->(b_ A.mask (di l<|.tup n) c).j∈A.place.toList)->
   (∀(a c:Nat),c<k->A.place[a]?=Z (b_ A.mask (di l<|.tup n) c).j->(M.map (·.1))[a]?≠Z n)->
   wpAny (aO Qy l) O (DH g (.ref f) (di l<|.tup n) X fuel N) D Qt h
 |0,k,N,_,ch,G,_=>by
  refine absurd (G s ⋯) F
 |fuel+1,k,N,ci,ch,G,Qx=>by
  have cl:k<=s:=by
   rcases e4 s k with z|z
   ·exact absurd (G s z) F
   ·exact z
  have co:M.length=Qs.size:=by rw[<-dp,<-C,bj]
  have al:∀(a:Nat) (p:List V),(M.map (·.1))[a]?=Z p->∃d e,Qs[a]?=Z d/\d.2=.ref e/\d.1=di l (.tup p)/\(d8 Qy l).is h.heap p e:=λa p m=>by
   let⟨@z,bd,am⟩:=cw.mp (by rw[eH]at m;exact m);let⟨@e,q,v,x⟩:=T z (fe bd);subst am;refine⟨z.2,e,?_,q,v,Q _ _ x⟩;rw[<-eE,<-C,eH,bd];rfl
  unfold DH;refine av (pU I J y.fit ?_);dsimp only;rw[aK (by unfold aQ.gaveWay;rw[p4];have:=y.bf.lU.pos;lia)];rw[ci];unfold aQ.probe;let⟨@Q0,f1,be,cr⟩:=DZ y.tab.rise y.tab.nU (λa=>(Qs[a]?.map (·.1)).getD 0) (di l<|.tup n) (10*aQ.turns A.mask) k ⟨s,cl,⋯,F⟩;have hV:∀c,c<Q0->(b_ A.mask (di l<|.tup n) c).j∈A.place.toList:=λc B=>by
   rcases e4 c k with z|z
   ·exact G c z
   ·let⟨@a,t,W⟩:=be c z B;rw[<-eE]at t;exact fe t
  have bi:∀(a c:Nat),c<Q0->A.place[a]?=Z (b_ A.mask (di l<|.tup n) c).j->(M.map (·.1))[a]?≠Z n:=λa c B r m=>by
   rcases e4 c k with z|z
   ·exact Qx a c z r m
   ·let⟨@bm,t,E⟩:=be c z B;have:=Et y.tab.rise r t;subst this;let⟨d,@e,q,x,v,an⟩:=al a n m;rw[q]at E;exact E v
  generalize bn:aQ.probe.go A _ (di l<|.tup n) _ (b_ A.mask (di l<|.tup n) k)=L;rcases cr with ⟨d,ap⟩|⟨a,d,am,H,f2⟩
  ·cases bn.symm.trans d;refine aS (a2 (λcs=>?_) Q0 ap hV);have db:=R.mem_iff.mpr cs;let⟨@a,S⟩:=tS db;let⟨d,@e,q,x,v,an⟩:=al a n S;have w:a<Qs.size:=(oN.mp q).1;have r:A.place[a]?=Z (A.place[a]'(by rw[y.size];exact w)):=mA (by rw[y.size];exact w);have ds:(A.place[a]'(by rw[y.size];exact w),di l<|.tup n)∈A.place.toList.zip (Qs.toList.map (·.1)):=by
    refine fe (i:=a) ?_;rw[t7];refine⟨by rw[eE];exact r,?_⟩;rw[eH,eE,q,<-v];rfl
   let⟨@as,bs,dL⟩:=y.bf.nF _ ds;have eq:as<Q0:=by
    rcases mu as Q0 with z|z|z
    ·exact z
    ·refine absurd ?_ ap;rw[<-z,bs];exact Array.getElem_mem_toList ..
    ·exact absurd (dL Q0 z) ap
   exact bi a as eq (by rw[r,bs]) S
  ·cases bn.symm.trans d;have w:a<M.length:=by rw[co,<-y.size];exact (oN.mp H).1
   have bv:(M.map (·.1))[a]?=Z M[a].1:=by rw[eH,eb w];rfl
   let⟨ev,@e,q,x,v,an⟩:=al a _ bv;dsimp only;refine Lo (λf4 p=>N2 P (λu ex=>?_) p) ?_
   ·let⟨@fd,fn,rfl⟩:=cO.mp ex;have ca:fd∈Qs.toList:=Ec.mpr (Array.mem_filter.mp<|Ec.mp fn).1;rw[<-C]at ca;let⟨@z,fr,rfl⟩:=cO.mp ca;let⟨@f0,Q_,W,Rb⟩:=T z fr;exact⟨f0,z.1,Q_,Q _ _ Rb⟩
   ·let⟨f8,ga⟩:=ev;cases x;rw[q];dsimp only;refine av (fc ((d8 Qy l).eqBool (show O.units+10<bK by lia) an P ?_));refine av (pU I J y.fit ?_);by_cases m:M[a].1=n
    ·rw[dd m,aE<|show (X&&X)=X from rfl];exact aS (a1 (R.mem_iff.mp (by rw[<-m];exact Bc (sE w))))
    ·rw[c0 m,aK ∅];dsimp only;rw[show A.sameMemory A.moves A.mask=Z X by unfold aQ.sameMemory;rw[aE (kT _)]];dsimp only;rw[aE rfl,am];dsimp only;rw[q];dsimp only;refine av (wpAny_isSame_ref_self<|av<|aS ?_);rw[aE rfl];dsimp only;rw[aK dv];refine BD cd I J y P Q C R T a1 a2 F ce fuel (Q0+1) _ rfl ⋯ (λc B=>?_) λbm c B r=>?_
     ·rcases e4 c Q0 with z|z
      ·exact hV c z
      ·rw[show c=Q0 by lia];rw[<-eE]at H;exact fe H
     ·rcases e4 c Q0 with z|z
      ·exact bi bm c z r
      ·rw[show c=Q0 by lia]at r;have:=Et y.tab.rise r H;subst this;rw[bv];exact λd=>m (Option.some.inj d)
end
def gI(QC:List (List V))(n:List V):List (List V):=(if n∈QC then QC else QC++[n])
section
variable{Qy:bz}{l:bc}{Qr:List V->ak->Prop}{O:bl}{Qt:ae->ah->Prop}{h:ah}
structure oY(l:bc)(Qr:List V->ak->Prop)(Qs:Array (Int×ae))(A:aQ)(b:Bool)(QC:List (List V))(r:Nat):Prop where
 qJ:∃M:List (List V×Int×ae),M.map (·.2)=Qs.toList/\(M.map (·.1)).Perm QC/\∀z∈M,v7 l Qr z
 tab:jD A b
 lU:hP A.mask
 len:A.place.size=Qs.size
 le:∀i∈A.place.toList,i<=A.mask
 nF:∀q∈A.place.toList.zip (Qs.toList.map (·.1)),kB A.mask (·∈A.place.toList) q.2 q.1
 ao:QC.Nodup
 iI:Qs.size=r+1
 EH:r*5<A.mask*3
def oY.dc(y:oY l Qr Qs A b QC r):A.fits Qs.size=X:=by
 have:=y.EH;have:=y.lU.pos;unfold aQ.fits aQ.fill;rw[y.tab.nU,y.len,y.iI,cI,p4,j1];exact⟨rfl,by show r+1+0<=_;lia⟩
def oY.done(y:oY l Qr Qs A b QC r)(a:¬ ((r+1)*5 >= A.mask*3)):ko l Qr Qs A b QC:=
 ⟨y.qJ,y.tab,⟨y.lU,by rw[y.len,bj,dp],by rw[y.len,y.iI];lia,y.le,y.nF⟩,y.ao⟩
def A9{a:Array (Int×ae)}{QZ:aQ}(d:c.get? g=Z o)(b:o.data=.set Qs Rc A):
  (c.update g<|a3.putSet a QZ).get? g=Z {o with data:=.set a (Rc+1) QZ}:=by
 have:=oK (a3.putSet a QZ) d (by rw[putSet_of a QZ b];rfl);rw[putSet_of a QZ b]at this;exact this
theorem vT{QT Rk:Type}(C:QT->Rk)(x:List QT)(k:List Rk)(b:x.map C=k):∀is:List Nat,(is.filterMap (x[·]?)).map C=is.filterMap (k[·]?)
 |[]=>rfl
 |a::is=>by
  subst b;rw[pE,pE,eH];cases x[a]? with
  |none=>exact vT C x _ rfl is
  |some f=>exact congrArg (C f::·) (vT C x _ rfl is)
def FW(x:List QT):(range x.length).filterMap (x[·]?)=x:=by
 have:=filterMap_getElem?_range x.toArray;simpa using this
def wN{Qs e:Array (Int × ae)}{f:aQ}{Qu:Bool -> ah -> Prop}(q:h.heap.get? g=Z o)(s:o.ExactSet)(t:o.data=.set Qs Rc A)(C:Qs.size=r)(n:r+1 <= 300)(y:oY l Qr e f b QC r)(c : ∀T,aV.SameBut g h.heap T -> gr l Qr T g b QC -> Qu X {h with heap:=T}):
    wpAny (aO Qy l) O (do
        storeSet g e f
        if (!aq&&f.tooFull)=X then do
            setRelay g (aQ.grown<|Qs.size+1)
            pure X
          else pure X) Qu Qt h:=by
  refine av (E1 q t ?_ (by rw [y.iI]; exact eG n ∅));have j:=A9 (a:=e) (QZ:=f) q t;have u:=oo h.heap g (a3.putSet e f);have v:f.tooFull=decide ((r+1)*5 >= f.mask*3):=by
    unfold aQ.tooFull aQ.fill;rw [y.tab.nU,y.len,y.iI];rfl
  by_cases m:(r+1)*5 >= f.mask*3
  · rw [v,dd m,aE<|show (!aq&&X)=X from rfl]
    let@⟨D,E,F⟩:=K3 y.lU y.EH m n;unfold setRelay;refine av (av<|pU j rfl y.dc ?_);dsimp only;rw [C,aK (λp => absurd (e5 p F) ∅)];let⟨QZ, @i,G,w,H,I⟩:=LO (A:=f) (Qs:=e) (l:=aQ.grown (r+1)) D (by rw [y.iI]; exact E) y.tab.led;rw [G];have x:(i.filterMap (e[·]?)).toList=i.toList.filterMap (e.toList[·]?):=by
      rw [wm];simp
    have J:(i.filterMap (e[·]?)).toList.Perm e.toList:=by
      rw [x];refine (w.filterMap _).trans ?_;rw [<-dp,FW]
    have z:(i.filterMap (e[·]?)).size=e.size:=by rw [<-dp,J.length_eq,dp]
    refine av (m:=if ((i.filterMap (e[·]?)).size != e.size)=X then _ else _) ?_;rw [z,aK ↥0];refine aS ?_;dsimp only;refine E1 j rfl ?_ (by rw [z,y.iI]; exact eG n ∅);refine aS (c _ (u.trans<|oo _ g _) ⟨_,_,_,_,A9 j rfl,s,rfl, ?_,H,I,y.ao⟩);let⟨@M,B,L,N⟩:=y.qJ;refine ⟨i.toList.filterMap (M[·]?), ?_, ?_,λp P => ?_⟩
    · rw [x]
      exact vT (·.2) M _ B _
    · refine (vt _ ?_).trans L
      refine (w.filterMap _).trans ?_;rw [show e.size=M.length by rw [<-dp, <-B,bj],FW]
    · let⟨@a,W,d⟩:=tp.mp P
      exact N p (fe d)
  · rw [v,c0 m,aK (show ¬ ((!aq&&aq)=X) from by decide)]
    refine aS (c _ u ⟨_,_,_,_,j,s,rfl,y.done m⟩)
def Pt(N:O.units+20<bK)(QI:gr l Qr h.heap g b QC)(w:(d8 Qy l).is h.heap n f)(P:Qr n f)(Q:∀p e,Qr p e->(d8 Qy l).is h.heap p e)(R:QC.length+1<=300)(c:∀e T,aV.SameBut g h.heap T->gr l Qr T g b (gI QC n)->D e {h with heap:=T}):
  wpAny (aO Qy l) O (setAddHashed g (.ref f)<|di l<|.tup n) D Qt h:=by
 let⟨o,Qs,Rc,@A,q,t,r,y⟩:=QI;have be:=y;let⟨@M,E,F,G⟩:=y.qJ;let⟨@bi,I,S⟩:=y.bf.some (di l<|.tup n);have bm:=y.bf.lU.pos;unfold setAddHashed setAddHashedIn;refine fc (av<|pU q r y.fit ?_);dsimp only;rw[aK (show ¬ (byScan (ae.ref f) Qs=X) from λk=>dv k)];unfold setSearch;refine av (BD N q r y w Q E F G (λu=>?_) (λu m J U=>?_) S I 100000 0 Y rfl (by unfold aQ.turns at I;lia) (λal k=>absurd k<|ui _) λa al k=>absurd k<|ui _)
 ·refine aS ?_;have d:h={h with heap:=h.heap}:=by cases h;rfl
  rw[d];refine c _ _ (aV.SameBut.refl g h.heap) ?_;rw[gI,aE u];exact⟨o,Qs,Rc,A,q,t,r,y⟩
 ·dsimp only;refine av (pU q r y.fit ?_);dsimp only;let@⟨am,Rf⟩:=y.bf.put (c:=di l (.tup n)) J U;have an:¬ (A.place[aQ.below A.place (b_ A.mask (di l<|.tup n) m).j]?=Z (b_ A.mask (di l<|.tup n) m).j):=λk=>J (by rw[<-eE]at k;exact fe k);have ap:=y.tab.put an;have x:∀e:Bool,oY l Qr (aQ.insertAt Qs (A.put (b_ A.mask (di l<|.tup n) m).j).2 (di l<|.tup n,.ref f)) { (A.put (b_ A.mask (di l<|.tup n) m).j).1 with plain:=e} b (QC++[n]) Qs.size:=λe=>by
   have z:(aQ.insertAt Qs (A.put (b_ A.mask (di l<|.tup n) m).j).2 (di l<|.tup n,ae.ref f)).toList=_:=v5 _ _ _;have as:(A.put (b_ A.mask (di l<|.tup n) m).j).1.place.toList=_:=v5 _ _ _;have L:(aQ.insertAt Qs (A.put (b_ A.mask (di l<|.tup n) m).j).2 (di l<|.tup n,ae.ref f)).size=Qs.size+1:=by
    rw[<-dp,z,dx,ey,fG,gc,dp];lia
   refine⟨⟨M.take (A.put (b_ A.mask (di l<|.tup n) m).j).2++(n,di l<|.tup n,.ref f)::M.drop (A.put (b_ A.mask (di l<|.tup n) m).j).2,?_,?_,λk s=>?_⟩,ap.Nr e,y.bf.lU,?_,am,?_,?_,L,?_⟩
   ·rw[z,<-E,fb,cH,iU,iP]
   ·rw[fb,cH,iU,iP];refine List.perm_middle.trans ?_;rw[e6];exact (F.cons n).trans (c6 (l₁:=[n]))
   ·rcases qc.mp s with rfl|s
    ·exact⟨f,rfl,rfl,P⟩
    ·exact G k s
   ·show (A.put (b_ A.mask (di l<|.tup n) m).j).1.place.size=_;rw[L,<-dp,as,dx,ey,fG,gc,dp,y.size];lia
   ·rw[z,fb,cH,iU,iP];exact Rf
   ·exact dk.mpr ⟨y.ao,eY _ n,λH a1 k s=>by cases cK.mp s;exact λd=>u<|d ▸ a1⟩
   ·have:=y.bf.loose;rw[y.size]at this;exact this
  have B:∀T,aV.SameBut g h.heap T->gr l Qr T g b (QC++[n])->D X {h with heap:=T}:=λT a2 bd=>c X T a2 (by rw[gI,aK u];exact bd);have C:Qs.size+1<=300:=by rw[y.num];exact R
  split
  ·refine av (zN 8 (v:=.tup n) w.1 w.2 λe=>?_);cases e
   ·exact wN q t r rfl C (x aq) B
   ·exact wN q t r rfl C (x _) B
  ·refine av (aS ?_);exact wN q t r rfl C (x _) B
end
def jV(l:bc):Bool:=(!l.params.followText "set-order")
def kZ(b:Bool):a3:=({cls:=.type "set",dict:=Y,data:=.set #[] 0 (.fresh 0 0 b)})
section
variable{Qy:bz}{l:bc}{O:bl}{Qt:ae->ah->Prop}{h:ah}
def Ld(g:ae){a:ae->ah->Prop}(c:a (.ref h.heap.objs.size) {h with heap:=h.heap.push (kZ<|jV l)}):
  codeAny (aO Qy l) O (.call (.builtin "set.__new__") ⟨[.type "set",g],[]⟩) (wants a Qt) h:=by
 refine vg ?_;show wpAny _ O.in1 (do EX "set.__new__" ⟨[.type "set",g],[]⟩;again (.builtin "set.__new__" ⟨[.type "set",g],[]⟩)) _ _ h;refine av (qe (PySem.F.newCall_set_1 g)<|aS ⟨jv B2 _,iQ PySem.F.entry_set_new ?_⟩);rw[je B2 _];unfold bq.«set.__new__» bq.Frozenset.newClass;have b:=sub_set_self;let⟨d,L,v,Q1,M⟩:=h;dsimp only
 wp_walk
 refine wpAny_askSetting (aS ?_);dsimp only;simp only[newObj];refine av (wpAny_alloc<|aS ?_);exact aS c
end
def h3(val:Nat->List V):Nat->List (List V)
 |0=>[]
 |a+1=>gI (h3 val a) (val a)
def gr.fresh(b:Bool):gr l Qr (c.push<|kZ b) c.objs.size b []:=
 ⟨_,#[],0,_,c_ _ rfl,⟨rfl,rfl,rfl⟩,rfl,⟨[],rfl,.nil,λf a=>(kq a).elim⟩,⟨List.Pairwise.nil,rfl,rfl⟩,⟨.inl rfl,rfl,show 0*5<7*3 by decide,λi d=>(kq d).elim,λq e=>(kq e).elim⟩,gY⟩
def gr.at{T:aV}(QI:gr l Qr c g b QC)(n:∀o,c.get? g=Z o->T.get? g=Z o):gr l Qr T g b QC:=by
 let⟨o,Qs,Rc,@A,a,s⟩:=QI;exact⟨o,Qs,Rc,A,n o a,s⟩
section
variable{Qy:bz}{l:bc}{Qr:List V->ak->Prop}{O:bl}{Qt:ae->ah->Prop}{h:ah}
def NX{Qu:oL->ah->Prop}{G QI:ak}{bY H:List ak}{D:Nat->ae->Prop}{aW:Nat->aV->Prop}{j:aV}(bi:O.units+25<bK)(W:kM Qy l O.in1 G bY H r D aW)(F:QI∉bY)(val:Nat->List V)(P:∀a u,D a u->∃e,u=.ref e/\Qr (val a) e)(I:∀p e,Qr p e->(d8 Qy l).is j p e)(g:∀e o,j.get? e=Z o->e∉H)(Q:∀J QL k,j.get? QI=Z J->J.data=.seq QL k->False)(R:∀a,a<r->(h3 val a).length+1<=300):
  ∀(n a:Nat) (h:ah),r-a=n->a<=r->rM j h.heap->aW a h.heap->gr l Qr h.heap QI b (h3 val a)->
   (∀T Q1,(∀e o,e≠QI->e∉H->h.heap.get? e=Z o->T.get? e=Z o)->gr l Qr T QI b (h3 val r)->Qu (.ok<|.ret .none) {h with heap:=T,toks:=Q1})->
   codeAny (aO Qy l) O (.builtin "set.update.loop" ⟨[.ref QI,.ref G],[]⟩) Qu h:=by
 have L:QI∉H:=λc=>F (W.sub _ c);intro n;induction n with
 |zero=>
  intro a h U S Qq v w x;have al:a=r:=⋯
  subst al;refine iQ A0 ?_;rw[je wV _];show wpAny _ O.in1 (gC (.ref G) >>= _) _ _ h;refine av (W.done h _ _ v λT Q1 i=>?_);show wpAny _ O.in1 (ret ae.none) _ _ _;exact aS (x T Q1 (λe o K g d=>i e o g d)<|w.at λo d=>i QI o L d)
 |succ n am=>
  intro a h U S Qq v w x;have y:a<r:=⋯
  refine iQ A0 ?_;rw[je wV _];show wpAny _ O.in1 (gC (.ref G) >>= _) _ _ h;refine av (W.item a h _ _ y v λu t bm an ap i=>?_);let⟨@f,rfl,z⟩:=P a u an;have M:rM j t:=λe o QL k m A q=>i e o (g e o m) (Qq e o QL k m A q);have B:∀p e,Qr p e->(d8 Qy l).is t p e:=λp e N=>⟨(I p e N).1,(I p e N).2.keep M⟩;show wpAny _ O.in1 (holding [ae.ref f] (setAdd QI<|.ref f) >>= _) _ _ _;refine av (fc ?_);unfold setAdd;refine fc ?_;refine av ((d8 Qy l).pyHash (k:=val a) (show O.units+1+10<bK by lia) (B _ _ z) ?_);refine Pt (h:={h with heap:=t,toks:=_}) (show O.units+1+20<bK by lia) (w.at λo d=>i QI o L d) (B _ _ z) z B (R a y) λe E C as=>?_;refine aS ⟨jv wV _,am (a+1) _ ⋯ y (λe o QL k m A q=>?_) (W.frame _ t E ap λe s o d=>?_) as λa1 a2 bd be=>?_⟩
  ·show E.get? e=Z o;rw[C.2 e (λc:e=QI=>Q o QL k (c ▸ m) q)];exact M e o QL k m A q
  ·rw[C.2 e (λc:e=QI=>F (by rw[<-c];exact s))];exact d
  ·refine x a1 a2 (λe o s g d=>bd e o s g ?_) be;show E.get? e=Z o;rw[C.2 e s];exact i e o g d
end
end L2
namespace L2
open Spec PyProof.Rows PySem.W
section
variable{b:aJ}{Q:List (ak×a3)}{B:aW}{j:aw}{h:ah}{Qr:List V->ak->Prop}
def gk(QC:List (List V)):List (List V):=(QC.foldl gI [])
theorem wt(QC:List (List V)):∀a,a<=QC.length->h3 (λa=>QC.getD a []) a=(QC.take a).foldl gI []
 |0,_=>by rw[rQ];rfl
 |a+1,c=>by
  rw[Cx (show a<QC.length from c),yw,<-wt QC a (Nat.le_of_succ_le c)];show gI _ (QC.getD a [])=gI _ QC[a];rw[cx,eb<|show a<QC.length from c];rfl
def G9(x:List (List V)):∀(a:List (List V)) (f:List V),f∈x.foldl gI a↔f∈a\/f∈x:=by
 induction x with
 |nil=>intro a f;simp
 |cons n s d=>
  intro a f;rw[lb,d];unfold gI;by_cases b:n∈a
  ·rw[aE b,cu];constructor
   ·rintro (c|c)
    ·exact .inl c
    ·exact .inr (.inr c)
   ·rintro (c|c|c)
    ·exact .inl c
    ·exact .inl (c ▸ b)
    ·exact .inr c
  ·rw[aK b,dG,cK,cu,or_assoc]
variable{QC:List (List V)}
def Jm{f:List V}:f∈gk QC↔f∈QC:=by
 rw[gk,G9];simp
def Iy(x:List (List V)):∀a:List (List V),a.Nodup->(x.foldl gI a).Nodup:=by
 induction x with
 |nil=>intro a c;exact c
 |cons n s b=>
  intro a c;refine b _ ?_;unfold gI;split
  ·exact c
  ·next e=>exact dk.mpr ⟨c,eY _ n,λf g H h=>by cases cK.mp h;exact λd=>e<|d ▸ g⟩
def Iv(QC:List (List V)):(gk QC).Nodup:=Iy QC [] gY
def Jb(x:List (List V)):∀a:List (List V),a.length<=(x.foldl gI a).length:=by
 induction x with
 |nil=>intro a;exact a5 _
 |cons n s b=>
  intro a;refine eG ?_ (b _);unfold gI;split
  ·exact a5 _
  ·rw[dx];exact l8 _ _
def Na{a:Nat}(c:a<=QC.length):(h3 (λa=>QC.getD a []) a).length<=(gk QC).length:=by
 rw[wt QC a c];have d:gk QC=(QC.drop a).foldl gI ((QC.take a).foldl gI []):=by
  rw[gk,<-yw,e6]
 rw[d];exact Jb _ _
def I6(QC:List (List V)):h3 (λa=>QC.getD a []) QC.length=gk QC:=by
 rw[wt QC _ (a5 _),oO];rfl
theorem bx.at{j:aw}:∀{I:List V}{U:List af}{a:Nat}{u:af},bx j I U->U[a]?=Z u->∃v,I[a]?=Z v/\cq j v u
 |[],U,a,u,c,d=>by rw[show U=[] from c]at d;simp at d
 |v::I,U,0,u,c,d=>by
  let⟨J,@s,rfl,t,E⟩:=c;cases d;exact⟨v,rfl,t⟩
 |v::I,U,a+1,u,c,d=>by
  let⟨J,@s,rfl,t,E⟩:=c;let⟨@b,e,f⟩:=bx.at (a:=a) E ⇑d;exact⟨b,by simpa using e,f⟩
end
def ox:List V->Option (List<|List V)
 |[]=>Z []
 |.tup g::s=>(ox s).map (g::·)
 |_=>Y
theorem CE:∀{f:List V}{QC:List (List V)},ox f=Z QC->f=QC.map .tup
 |[],QC,c=>by cases c;rfl
 |.tup g::s,QC,c=>by
  let⟨@n,t,rfl⟩:=cw.mp c;rw[CE t];rfl
 |.aT::_,_,c=>by cases c
 |.ax _::_,_,c=>by cases c
 |.int _::_,_,c=>by cases c
 |.str _::_,_,c=>by cases c
 |.fn _::_,_,c=>by cases c
 |.aR _::_,_,c=>by cases c
 |.fd::_,_,c=>by cases c
theorem zD:∀QC:List (List V),ox (QC.map .tup)=Z QC
 |[]=>rfl
 |n::QC=>by
  show (ox<|QC.map .tup).map (n::·)=_;rw[zD QC];rfl
def pB(QC:List (List V)):Bool:=(QC.all (V.keys 7)&&decide ((gk QC).length<300))
def E6{QC:List (List V)}:pB QC=X↔(∀n∈QC,V.keys 7 n=X)/\(gk QC).length<300:=by
 unfold pB;rw[cI,iC,j1]
end L2
namespace L2
open Spec PyProof.Rows
variable{c Rj Ro:ay bJ}{e g d:bk}{Qs:List bk}{QK q:Pos}{k n r:Nat}{L:ay (List bJ)}{QX:List Nat}{Q2 QF:List aB}{C:ak}{N:cF}{Rm f:aB}{Qw:Φ}{QE:dH}
def MX:uv (.type "list_reverseiterator") "__len__" = pure Y:=by rw[uO,x3];kernel_rfl
def KR:uv (.type "list_reverseiterator") "__length_hint__" = pure (Z<|.builtin "list_reverseiterator.__length_hint__"):=by rw[uO,x3];kernel_rfl
section
variable{Qy:bz}{l:bc}{O:bl}{h:ah}{Qu:oL->ah->Prop}{G:ak}{bY H:List ak}{QE:Array oI->Array oI->Prop}{r:Nat}{Qr:Nat->ae->Prop}{aW:Nat->ah->Prop}
def H0(W:WalksS Qy l O.in1 G bY H QE r Qr aW)(f:∀a h,aW a h->h.TypeIs (.ref G) "list_reverseiterator")(QI:ak)(j:ae)(n:Nat)(b:aW 0 h)(k:QI∉bY)(o:G∈bY)(p:h.heap.get? QI=Z {cls:=.type "list",data:=.seq #[] n})(q:∀Qp g c,Moved (QI::H) QE h Qp->Qp.heap.get? QI=Z {cls:=.type "list",dict:=Y,data:=.seq g c,slots:=#[]}->pO Qr g r->Qu (.ok<|.ret j) Qp)(s:r<=sizeLine):
  wpAny (aO Qy l) O.in1 (bq.List.listExtendWith (.ref QI) (.ref G) j)
   (λu Qp=>match u with | .done C=>Qu (.ok C) Qp | .again c=>c.quiet=X/\codeAny (aO Qy l) O c Qu Qp) (λd Qp=>Qu (.error d) Qp) h:=by
 have v:QI≠G:=λd=>k (d ▸ o);have t:bq.List.listSameRef (.ref QI) (.ref G)=aq:=by simp[bq.List.listSameRef,v]
 unfold bq.List.listExtendWith;refine av (wpAny_typeOf (f 0 _ b) ?_);rw[aK (by rw[t];decide)];refine av (W.self 0 _ _ _ b<|av<|fc ?_);unfold bq.List.listLengthHint;refine av (nA (f 0 _ b) MX ?_);show wpAny _ O.in1 (specialOf (ae.ref G) (aB.ofString "__length_hint__") >>= _) _ _ _;refine av (nA (f 0 _ b) KR ?_)
 (generalize i:("list_reverseiterator.__length_hint__" : String)=m;(fail_if_success (clear i m));wp_delta;rw[show splitId m=Z ("list_reverseiterator","__length_hint__") from by subst i;decide +kernel];subst i)
 refine av (sG (b:=X) (f 0 _ b) (by rw[xQ];kernel_rfl) ?_);refine aS ?_;rw[aK ∅];exact aS ⟨jv F.plain_extend_loop _,codeAny_extend_loopS W s _ k _ r 0 _ _ _ rfl (fo _) b p (pO.nil Qr) λQp g c w x y=>q Qp g c w x y⟩
end
def ps:List (ak×a3)->Bool
 |[]=>X
 | (_,o)::s=>(match o.data with
  |.seq _ _=>(match o.cls with | .type r=>r != "list" |_=>X)
  |_=>X)&&ps s
def F6{Qw:List (ak×a3)}{g:ak}{o:a3}{QD:Array ae}(c:ps Qw=X)(d:Qw.lookup g=Z o)(a:o.cls=.type "list")(b:o.data=.seq QD r):False:=by
 induction Qw with
 |nil=>cases d
 |cons q s h=>
  let⟨e,f⟩:=q;rw[ps,cI]at c;simp only[List.lookup]at d;split at d
  ·cases d;have t:=c.1;rw[b]at t;dsimp only at t;rw[a]at t;exact absurd t ∅
  ·exact h c.2 d
theorem BC{j:aw}:∀QM:List Int,bx j (QM.map .int) (QM.map af.int)
 |[]=>rfl
 |r::s=>⟨.int r,_,rfl,rfl,BC s⟩
def KL(a:ps Qw=X)(j:aw)(g:ak)(QM:List Int)(b:sF j)(e:cT Qw j g (QM.map af.int))(bf:∃G,QE [.cS (QM.map .int)]=Z (.im<|.ax X,G)){Qt:gs}:jY 1 QE [.ref g] j (λu W=>u=.ax X) Qt:=by
 let⟨@G,bf⟩:=bf;have f:∃o,j g=Z (.dP o<|.lst<|QM.map af.int):=by
  rcases e with (c|c)|⟨o,QD,r,t,E,k,h,_⟩
  ·rcases b g with d|⟨o,w,d⟩
   ·rw[d]at c;cases c
   ·rw[d]at c;cases c
  ·exact c
  ·exact (F6 a t E h).elim
 let⟨@o,i⟩:=f;refine⟨rfl,[.cS (QM.map .int)],[],.im<|.ax X,G,⟨_,_,[],[],rfl,⟨g,_,o,rfl,i,BC QM,rfl⟩,⟨rfl,rfl⟩,rfl⟩,gY,bf,λu F Qu l c W W=>?_⟩;exact c.1
def hi{QR:List ae}(c:QR.length=r+1):∃g s,QR=g::s/\s.length=r:=by
 cases QR with
 |nil=>cases c
 |cons g s=>exact⟨g,s,rfl,Nat.succ.inj c⟩
def fT.LV{fd:gj}(P:fT Qw f Rm N C fd)(c:∀(b0 i T:ae) (y:Option ak) (R bW:ae) (g:ae),i0 (Ξ f Rm (gW N) (fJ N) (dB N) .none b0 i T y R bW) ⟨[g],[]⟩=pure (QF.zip [g]))(b:QF.length=1:=by rfl):ik Qw fd QF []:=
 P.binds λb0 i T y R bW QR a=>by
  replace a:=a.trans b;let⟨g,@d,rfl,t⟩:=hi a;obtain rfl:=oc t;exact c b0 i T y R bW g
def fT.ME{fd:gj}(P:fT Qw f Rm N C fd)(c:∀(b0 i T:ae) (y:Option ak) (R bW:ae) (g e:ae),i0 (Ξ f Rm (gW N) (fJ N) (dB N) .none b0 i T y R bW) ⟨[g,e],[]⟩=pure (QF.zip [g,e]))(b:QF.length=2:=by rfl):ik Qw fd QF []:=
 P.binds λb0 i T y R bW QR a=>by
  replace a:=a.trans b;let⟨g,@d,rfl,t⟩:=hi a;let⟨e,@h,rfl,E⟩:=hi t;obtain rfl:=oc E;exact c b0 i T y R bW g e
def fT.Gq{fd:gj}(P:fT Qw f Rm N C fd)(c:∀(b0 i T:ae) (y:Option ak) (R bW:ae) (g e m:ae),i0 (Ξ f Rm (gW N) (fJ N) (dB N) .none b0 i T y R bW) ⟨[g,e,m],[]⟩=pure (QF.zip [g,e,m]))(b:QF.length=3:=by rfl):ik Qw fd QF []:=
 P.binds λb0 i T y R bW QR a=>by
  replace a:=a.trans b;let⟨g,@h,rfl,t⟩:=hi a;let⟨e,@j,rfl,E⟩:=hi t;let⟨m,@k,rfl,d⟩:=hi E;obtain rfl:=oc d;exact c b0 i T y R bW g e m
def fT.Gm{fd:gj}(P:fT Qw f Rm N C fd)(c:∀(b0 i T:ae) (y:Option ak) (R bW:ae) (g e m v:ae),i0 (Ξ f Rm (gW N) (fJ N) (dB N) .none b0 i T y R bW) ⟨[g,e,m,v],[]⟩=pure (QF.zip [g,e,m,v]))(b:QF.length=4:=by rfl):ik Qw fd QF []:=
 P.binds λb0 i T y R bW QR a=>by
  replace a:=a.trans b;let⟨g,@j,rfl,t⟩:=hi a;let⟨e,@k,rfl,E⟩:=hi t;let⟨m,@l,rfl,d⟩:=hi E;let⟨v,@n,rfl,h⟩:=hi d;obtain rfl:=oc h;exact c b0 i T y R bW g e m v
def fT.HV{fd:gj}(P:fT Qw f Rm N C fd)(c:∀(b0 i T:ae) (y:Option ak) (R bW:ae) (g e m v d:ae),i0 (Ξ f Rm (gW N) (fJ N) (dB N) .none b0 i T y R bW) ⟨[g,e,m,v,d],[]⟩=pure (QF.zip [g,e,m,v,d]))(b:QF.length=5:=by rfl):ik Qw fd QF []:=
 P.binds λb0 i T y R bW QR a=>by
  replace a:=a.trans b;let⟨g,@l,rfl,t⟩:=hi a;let⟨e,@n,rfl,E⟩:=hi t;let⟨m,@o,rfl,h⟩:=hi E;let⟨v,@p,rfl,j⟩:=hi h;let⟨d,@q,rfl,k⟩:=hi j;obtain rfl:=oc k;exact c b0 i T y R bW g e m v d
structure e_ where
 P:bz
 w:bc
 K:Φ
 aI:aB->Option ae
 base:aV
def dM(Qw:Φ)(f:aB)(N:cF)(C:ak):Prop:=(∃fd,fT Qw f f N C fd/\Ψ Qw dq f=Z (Z<|.ref C))
def eg(Qw:Φ)(aI:aB->Option ae)(f:aB)(N:cF)(C:ak)(QF:List aB):Prop:=(∃fd,fT Qw f f N C fd/\ik Qw fd QF []/\aI f=Z (.ref C))
def j3(Qr:bz)(l:bc)(Qw:Φ)(aI:aB->Option ae)(QH:aV)(n:Nat)(f:aB)(N:cF)(C:ak)(QF:List aB)(r:Nat)(QE:dH):Prop:=(∃fd,fT Qw f f N C fd/\ik Qw fd QF []/\aI f=Z (.ref C)/\iz Qr l Qw aI QH hT n C fd QF (jY r QE))
abbrev fC(m:e_):=j3 m.P m.w m.K m.aI m.base
def Cy{E:ae}{t y:Option ak}{I:Array (Option ae)}{b0 i T R bW:ae}(g:Ψ Qw dq f=Z (Z<|.ref C))(x:Qw.lookup C=Z ⟨E,t,.func<|Ξ f f (gW N) (fJ N) (dB N) .none b0 i T y R bW,I⟩)(m:Δ Qw R f=X)(n:Θ Qw (.ref C)=X):dM Qw f N C:=⟨_,NG x m n,g⟩
section
variable{Qr:bz}{l:bc}{Qw:Φ}{aI:aB->Option ae}{QH c:aV}{n r:Nat}{f:aB}{N:cF}{C:ak}{QF:List aB}{QE:dH}
def dM.dV(s:dM Qw f N C)(b:Qw.In c)(d:c.Ns dq aI)(e:∀(b0 i T:ae) (y:Option ak) (R bW g:ae),i0 (Ξ f f (gW N) (fJ N) (dB N) .none b0 i T y R bW) ⟨[g],[]⟩=pure (QF.zip [g]):=by intros;rfl)(h:QF.length=1:=by rfl):eg Qw aI f N C QF:=
 have ⟨_,a,g⟩:=s
 ⟨_,a,a.LV e h,lq b d g⟩
def dM.dg(s:dM Qw f N C)(b:Qw.In c)(d:c.Ns dq aI)(h:∀(b0 i T:ae) (y:Option ak) (R bW g e:ae),i0 (Ξ f f (gW N) (fJ N) (dB N) .none b0 i T y R bW) ⟨[g,e],[]⟩=pure (QF.zip [g,e]):=by intros;rfl)(j:QF.length=2:=by rfl):eg Qw aI f N C QF:=
 have ⟨_,a,g⟩:=s
 ⟨_,a,a.ME h j,lq b d g⟩
def dM.qF(s:dM Qw f N C)(b:Qw.In c)(d:c.Ns dq aI)(h:∀(b0 i T:ae) (y:Option ak) (R bW g e m:ae),i0 (Ξ f f (gW N) (fJ N) (dB N) .none b0 i T y R bW) ⟨[g,e,m],[]⟩=pure (QF.zip [g,e,m]):=by intros;rfl)(j:QF.length=3:=by rfl):eg Qw aI f N C QF:=
 have ⟨_,a,g⟩:=s
 ⟨_,a,a.Gq h j,lq b d g⟩
def dM.kY(s:dM Qw f N C)(b:Qw.In c)(d:c.Ns dq aI)(h:∀(b0 i T:ae) (y:Option ak) (R bW g e m v:ae),i0 (Ξ f f (gW N) (fJ N) (dB N) .none b0 i T y R bW) ⟨[g,e,m,v],[]⟩=pure (QF.zip [g,e,m,v]):=by intros;rfl)(j:QF.length=4:=by rfl):eg Qw aI f N C QF:=
 have ⟨_,a,g⟩:=s
 ⟨_,a,a.Gm h j,lq b d g⟩
def dM.k6(s:dM Qw f N C)(b:Qw.In c)(h:c.Ns dq aI)(j:∀(b0 i T:ae) (y:Option ak) (R bW g e m v d:ae),i0 (Ξ f f (gW N) (fJ N) (dB N) .none b0 i T y R bW) ⟨[g,e,m,v,d],[]⟩=pure (QF.zip [g,e,m,v,d]):=by intros;rfl)(k:QF.length=5:=by rfl):eg Qw aI f N C QF:=
 have ⟨_,a,g⟩:=s
 ⟨_,a,a.HV j k,lq b h g⟩
def j3.fd{fd:gj}(aL:j3 Qr l Qw aI QH n f N C QF r QE)(b:fT Qw f f N C fd):iz Qr l Qw aI QH hT n C fd QF (jY r QE):=by
 let⟨@e,c,W,W,L⟩:=aL;let⟨E,t,b0,i,T,y,R,bW,@I,d,x,W⟩:=b.ex;let⟨g,h,j,k,m,o,p,q,@s,u,a,W⟩:=c.ex;rw[x]at a;cases a;exact L
def Iq(s:dM Qw f N C)(b:Qw.In c)(d:c.Ns dq aI){ed:ak}(j:aI f=Z (.ref ed)){q:aB}(k:∀(b0 i T:ae) (y:Option ak) (R bW:ae) (h:ah) (u:ae),me h (Ξ f f (gW N) (fJ N) (dB N) .none b0 i T y R bW) ⟨[u],[]⟩ [(q,u)])(aL:∀QH,j3 Qr l Qw aI QH n f N C [q] r QE):
  ∃fd:gj,(∀(h:ah) (u:ae),me h fd ⟨[u],[]⟩ [(q,u)])/\∀QH:aV,Qw.In QH->QH.Ns dq aI->iz Qr l Qw aI QH hT n ed fd [q] (jY r QE):=by
 let⟨@fd,a,g⟩:=s;cases j.symm.trans (lq b d g);refine⟨fd,?_,λe U U=>(aL e).fd a⟩;let⟨E,t,b0,i,T,y,R,bW,@I,rfl,x,U⟩:=a.ex;exact k b0 i T y R bW
def Oy{L:bP}(P:eg Qw aI f N C QF)(QI:mI Q2 QF (dB N))(c:QF.length=r)(d:∀a∈QX,a<r)(g:Q2.Nodup->∀(R:ae) (O:bl) (Rg:List eA) (h:ah) (j:aw) (Qt:gs),eD n (O.deeper<|iB f (dB N) h.heap.objs.size C R)->i1 (kN hT Qr l Qw aI QH Q2 f (dB N) C R O Rg h j Qt).m1 QX (fJ N) L):
  j3 Qr l Qw aI QH (n+1) f N C QF r (d1 r Q2.length QX L):=
 have ⟨_,b,e,k⟩:=P
 ⟨_,b,e,k,JU b QI c d<|g QI.ao⟩
end
section
variable{b:aJ}
def Bd(aL:j3 b.prog b.w b.K b.aI b.base n f N C QF r QE)(a:eD k b.A)(c:d3 b f)(g:fv b (d::Qs) L)(h:n<=k:=by decide)(i:(f==("__debug__" : aB))=aq:=by decide)(j:bQ (d::Qs) b.env=(aq,b8 d b.env)::bQ Qs b.env:=by rfl)(m:(gh QK<|bQ Qs b.env).any (·.1)=aq:=by rfl):
  cm b (.Call (.Name f q) (d::Qs) [] QK) (bT r QE L):=
 have ⟨_,o,e,k,P⟩:=aL
 Ni P (a.mono h) c k o.da e g i j m
def a9{a:Int}{i QK}:dE b (.Constant (.int a) i QK) (ag<|aC<|.int a):=aY hc
def au(a:Nat){f:aB}{QK:Pos}(c:b.N[a]?=Z f:=by rfl)(d:t_ b.env.scope f:=by first|exact Or.inl rfl|exact Or.inr (Or.inl rfl)|exact Or.inr (Or.inr rfl))(e:(f==("__debug__" : aB))=aq:=by decide)(g:(f==("__classdict__" : aB))=aq:=by decide):dE b (.Name f QK) (aj a):=NF (y2 c d e g)
def bX{L:ay bJ}(a:dE b d L)(Qx:bQ [d] b.env=(aq,b8 d b.env)::bQ [] b.env:=by rfl):fv b [d] (ar L aF):=g0 a lL Qx
def jA(a:eD k b.A)(c:dE b g Ro)(d:dE b e Rj)(Qx:rD e:=by exact λ_ W=>rfl):cm b (.Subscript g e QK) (az bD Ro Rj):=Lc (Ln (by have:=a.un;lia)) c d Qx
def ct{C:bk}{L:ay bJ}(a:dE b d L)(e:dE b C c)(Qx:bQ [d,C] b.env=(aq,b8 d b.env)::bQ [C] b.env:=by rfl)(E:bQ [C] b.env=(aq,b8 C b.env)::bQ [] b.env:=by rfl):fv b [d,C] (ar L<|ar c aF):=g0 a (bX e E) Qx
def hM{C v:bk}{L n:ay bJ}(a:dE b d L)(e:dE b C c)(f:dE b v n)(Qx:bQ [d,C,v] b.env=(aq,b8 d b.env)::bQ [C,v] b.env:=by rfl)(t:bQ [C,v] b.env=(aq,b8 C b.env)::bQ [v] b.env:=by rfl)(E:bQ [v] b.env=(aq,b8 v b.env)::bQ [] b.env:=by rfl):fv b [d,C,v] (ar L<|ar c<|ar n aF):=g0 a (ct e f t E) Qx
def dF(a:Nat){f:aB}{d:bk}{L:ay ai}{QK i:Pos}(c:b.N.Nodup)(e:cm b d L)(S:b.N[a]?=Z f:=by rfl)(g:jh b.env.scope f:=by exact Or.inl rfl)(h:a∉QX:=by decide)(Qx:mE d (Z<|.Name f i) QK.line b.env=pure aq:=by rfl)(j:b.fn f=X\/b.env.scope.names.lookup f=Z .local:=by first|exact .inl rfl|exact .inr rfl|assumption):iy b QX (.Assign [.Name f i] d QK) (bV a L):=nT c S g e h Qx j
def iO(a:Nat){f:aB}{QK:Pos}(c:b.N.Nodup)(S:b.N[a]?=Z f:=by rfl)(d:jh b.env.scope f:=by exact Or.inl rfl)(e:a∉QX:=by decide)(g:b.fn f=X\/b.env.scope.names.lookup f=Z .local:=by first|exact .inl rfl|exact .inr rfl|assumption):gS b QX (.Name f QK) (bH a):=tJ c S d e g
def rY:List aB->Bool
 |[]=>X
 |f::x=>!x.contains f&&rY x
theorem Br:∀{x:List aB},rY x=X->x.Nodup
 |[],_=>gY
 |f::x,c=>by
  rw[rY,cI,ks]at c;refine ic.mpr ⟨λa=>?_,Br c.2⟩;rw[List.contains_iff_mem.mpr a]at c;cases c.1
def gi(a:Nat){f:aB}{QK:Pos}(S:b.N[a]?=Z f:=by rfl)(c:rY b.N=X:=by kernel_rfl)(d:jh b.env.scope f:=by exact Or.inl rfl)(e:a∉QX:=by decide)(g:b.fn f=X\/b.env.scope.names.lookup f=Z .local:=by first|exact .inl rfl|exact .inr rfl|assumption):gS b QX (.Name f QK) (bH a):=tJ (Br c) S d e g
def j8{QY Rl Rw:bk}{QS:gn}(own:List aB)(QW:List Nat){Q:js}{H:fg}{Rz:ay ai}(S:lj b QY Rl Q)(c:∀a,gS (b.fx (fF b own QW) QS a) (oR own.length QW.length) QY H)(d:∀a,cm (b.fx (fF b own QW) QS a) Rw Rz)(QI:vq b.env.scope b.N QS QW=X:=by kernel_rfl)(e:b.calm=X:=by rfl)(ao:QW.Nodup:=by decide)(Qx:∀f,k8 Rl b.env f=pure f:=by intro W;rfl):cm b (.ListComp Rw [⟨QY,Rl,[],0⟩] QS QK) (cR own.length QW Q H dN Rz):=
 xJ e (mi _ _ QI rfl rfl) ao S c (λ_=>va) d Qx
def Em{L c:fg}{a}(d:gS b QX g L)(f:gS b QX e c)(h:b.calm=X:=by rfl)(t:(eV [g,e] b.env).map (·.2)=hC g b.env::(eV [e] b.env).map (·.2):=by rfl)(E:(eV [e] b.env).map (·.2)=hC e b.env::(eV [] b.env).map (·.2):=by rfl)(i:(eV [g,e] b.env).length=2:=by rfl)(j:(eV [g,e] b.env).findIdx? (·.1)=Y:=by rfl):gS b QX (.Tuple [g,e] a QK) (og 2<|iw L<|iw c mU):=Ha h (tn d (tn f Cm E) t) i j
def ek{id:String}{Q8:List ai->Option ai}(a:g8 b (.builtin id) Q8)(c:b.aI f=Y)(e:ez f=Z (.builtin id))(g:fv b (d::Qs) L)(h:d3 b f:=by rfl)(i:f ≠ "__name__" := by decide)(j:(f==("__debug__" : aB))=aq:=by decide)(k:bQ (d::Qs) b.env=(aq,b8 d b.env)::bQ Qs b.env:=by rfl)(l:(gh QK<|bQ Qs b.env).any (·.1)=aq:=by rfl):
  cm b (.Call (.Name f q) (d::Qs) [] QK) (b9 Q8 L):=I9 a h c e g i j k l
def c9(aL:j3 b.prog b.w b.K b.aI b.base n f N C QF r QE)(a:eD k b.A)(c:fv b (d::Qs) L)(e:d3 b f:=by rfl)(g:n<=k:=by decide)(h:(f==("__debug__" : aB))=aq:=by decide)(i:bQ (d::Qs) b.env=(aq,b8 d b.env)::bQ Qs b.env:=by rfl)(j:(gh QK<|bQ Qs b.env).any (·.1)=aq:=by rfl):
  cm b (.Call (.Name f q) (d::Qs) [] QK) (bT r QE L):=Bd aL a e c g h i j
def cL(a:eD k b.A)(c:dE b g Ro)(d:dE b e Rj)(Qx:rD e:=by exact λ_ W=>rfl):dE b (.Subscript g e QK) (ag<|az bD Ro Rj):=aY (jA a c d Qx)
def cY{Q8:uM}{C:ai->ai->Option ai}(a:eS b (fR Q8) C)(c:dE b g Ro)(d:dE b e Rj):dE b (.BinOp g Q8 e QK) (ag<|az C Ro Rj):=aY (hL a c d)
def gX{a}(c:fv b Qs L):dE b (.Tuple Qs a QK) (ag<|dA L):=aY (i5 c)
end
section
variable{Qr:bz}{l:bc}{Qw:Φ}{aI:aB->Option ae}{QH c:aV}{n r:Nat}{f:aB}{N:cF}{C:ak}{QF:List aB}{QE:dH}
def IX{Qr:List aB}{A:gn}(g:A.kind=.function:=by rfl)(e:A.isCoroutine=aq:=by rfl)(m:A.isGenerator=aq:=by rfl)(v:Q2.Nodup:=by decide +kernel)(d:Q2.take Qr.length=Qr:=by rfl)(C:∀f∈Qr,A.names.lookup f=Z .local\/A.names.lookup f=Z .cell:=by decide +kernel)(L:∀H∈A.names,H.2≠.free:=by decide +kernel):mI Q2 Qr A:=⟨g,e,m,v,d,C,L⟩
def fQ{L:bP}(Q2:List aB)(P:eg Qw aI f N C QF)(b:Q2.Nodup->∀(R:ae) (O:bl) (Rg:List eA) (h:ah) (j:aw) (Qt:gs),eD n (O.deeper<|iB f (dB N) h.heap.objs.size C R)->i1 (kN hT Qr l Qw aI QH Q2 f (dB N) C R O Rg h j Qt).m1 QX (fJ N) L)(QI:mI Q2 QF (dB N):=by exact IX)(c:QF.length=r:=by rfl)(d:∀a∈QX,a<r:=by decide):j3 Qr l Qw aI QH (n+1) f N C QF r (d1 r Q2.length QX L):=Oy P QI c d b
end
end L2
namespace L2
open Spec PyProof.Rows PySem.W
variable{i n r:Nat}{o:a3}{QC:List (List V)}{F Rf QK q:Pos}{Q9:eW}{g:bk}{D:ae->ah->Prop}{QL:Array ae}{x G C:ak}{L:ay (List bJ)}{f:aB}{QF:List aB}{N:cF}
def qC:fS:=(λg e=>match g,e with
 |.im f,.im H=>if eM 6 f H=X then Z (.im<|.ax<|bF H f) else Y
 |_,_=>Y)
def Ms:isSubtype (.type "list") (.type "set")=pure aq:=by rw[xQ];kernel_rfl
def Je:isSubtype (.type "list") (.type "frozenset")=pure aq:=by rw[xQ];kernel_rfl
section
variable{b:aJ}
def PN(o:b.A.units+20<bK):eS b (dY .Gt) qC:=by
 intro Q h B j f H u J D G c e g;let⟨Q_,Rb,v,k,m,d,p⟩:=g;unfold qC at d;split at d
 ·split at d
  ·rename_i n;cases d;exact zL 6 n ⋯ (k.i.eJ G.a0 c) (m.i.eJ G.a0 e) b.prog b.w _ _ ⟨.ax _,j,G,rfl,b5.i p rfl⟩
  ·cases d
 ·cases d
def Ew{k:Nat}{QE:dH}{d:bk}{Qs:List bk}(aL:j3 b.prog b.w b.K b.aI b.base n f N C QF r QE)(a:eD k b.A)(c:n<=k)(e:fv b (d::Qs) L)(g:d3 b f:=by rfl)(h:(f==("__debug__" : aB))=aq:=by decide)(i:bQ (d::Qs) b.env=(aq,b8 d b.env)::bQ Qs b.env:=by rfl)(j:(gh QK<|bQ Qs b.env).any (·.1)=aq:=by rfl):
  cm b (.Call (.Name f q) (d::Qs) [] QK) (bT r QE L):=Bd aL a g e c h i j
def Kr{Qr:bz}{l:bc}{Qw:Φ}{aI:aB->Option ae}{QH:aV}(P:eg Qw aI f N C QF)(a:QF.length=r:=by rfl):j3 Qr l Qw aI QH n f N C QF r λ_=>Y:=
 have ⟨_,b,e,k⟩:=P
 ⟨_,b,e,k,⟨λU j D Qt c=>c.1.trans a.symm,λO Rg h j args QR U D Qt g i m o c=>absurd c.2 (by rintro⟨T,T,T,T,T,T,d,T⟩;cases d)⟩⟩
end
section
variable{Qy:bz}{l:bc}{O:bl}{h:ah}{Qt:ae->ah->Prop}
def Ou{Qu:oL->ah->Prop}{bY H:List ak}{QE:Array oI->Array oI->Prop}{Qr:Nat->ae->Prop}{aW:Nat->ah->Prop}(W:WalksS Qy l O.in1 G bY H QE r Qr aW)(d:∀a h,aW a h->h.TypeIs (.ref G) "list_reverseiterator")(QI:ak)(b:Nat)(e:aW 0 h)(f:QI∉bY)(g:G∈bY)(i:h.heap.get? QI=Z {cls:=.type "list",data:=.seq #[] b})(j:∀Qp c k,Moved (QI::H) QE h Qp->Qp.heap.get? QI=Z {cls:=.type "list",dict:=Y,data:=.seq c k,slots:=#[]}->pO Qr c r->Qu (.ok<|.ret<|.ref QI) Qp)(m:r<=sizeLine):codeAny (aO Qy l) O (.builtin "list.__iadd__" ⟨[.ref QI,.ref G],[]⟩) Qu h:=by
 refine iQ F.entry_list_iadd ?_;rw[je DR _];show wpAny _ O.in1 (bq.List.listExtendWith (.ref QI) (.ref G)<|.ref QI) _ _ _;exact H0 W d QI _ b e f g i j m
def NY{D:List ae->ah->Prop}(q:O.handled=Y)(r:x≠G)(k:h.heap.IsList x QL)(n:h.heap.IsRevIter G x ((QL.size:Int)-1))(s:QL.size<=sizeLine)(t:∀(T:aV) (Q1:Nat) (g:Array ae),(∀e o,e≠G->h.heap.get? e=Z o->T.get? e=Z o)->h.heap.objs.size<=T.objs.size->pO (λa u=>QL[QL.size-1-a]?=Z u) g QL.size->D g.toList {h with heap:=T,toks:=Q1}):
  wpAny (aO Qy l) O (collect<|.ref G) D Qt h:=by
 have B:G<h.heap.objs.size:=let ⟨o,d,_⟩:=n;b1 d
 have C:x<h.heap.objs.size:=let ⟨o,d,_⟩:=k;b1 d
 have v:h.heap.objs.size∉[G,x]:=λb=>by
  simp only[cu,mJ,kJ]at b;rcases b with c|c<;>lia
 unfold collect;refine av (yK<|iQ F.entry_proto_collect ?_);rw[je F.plain_proto_collect _];show wpAny _ O.in1 (rv [] >>= λx=>again<|.builtin "list.__iadd__" ⟨[x,.ref G],[]⟩) _ _ h;refine av (hJ<|aS ⟨jv DR _,?_⟩);have i:∀m o,h.heap.get? m=Z o->(h.heap.push {cls:=.type "list",data:=.seq ([]:List ae).toArray}).get? m=Z o:=λm o d=>b6 _ d;have w:(h.heap.push {cls:=.type "list",data:=.seq ([]:List ae).toArray}).get? h.heap.objs.size=Z {cls:=.type "list",data:=.seq ([]:List ae).toArray}:=c_ _ rfl;refine Ou (h:={h with heap:=h.heap.push {cls:=.type "list",data:=.seq ([]:List ae).toArray} }) (O:=O) (kM.listRev (prog:=Qy) (w:=l) (A:=O.in1) q G x r QL).toS (λa h f=>f.2.1.typeIs) h.heap.objs.size _ ⟨fo _,?_,k.at λo d=>i _ o d⟩ v (.head _) w (λQp g E b p y=>?_) s
 ·have:(QL.size:Int)-1-((0:Nat):Int)=(QL.size:Int)-1:=⋯
  rw[this];exact n.at λo d=>i _ o d
 ·show wpAny _ O (load h.heap.objs.size >>= _) _ _ Qp;refine av (wpAny_load p<|aS ?_);rw[Moved.eq_with b];refine t Qp.heap Qp.toks g (λe o z d=>b.heap e o (λj=>?_)<|i e o d) (mj<|b1 p) y;rcases cu.mp j with A|j
  ·exact c1 (b1 d) A
  ·exact z (cK.mp j)
def Nj(k:O.handled=Y)(m:x≠G)(n:h.heap.IsList x QL)(g:h.heap.IsRevIter G x ((QL.size:Int)-1))(i:QL.size<=sizeLine)(p:∀(T:aV) (Q1:Nat) (j:Array ae),(∀e o,e≠G->h.heap.get? e=Z o->T.get? e=Z o)->h.heap.objs.size<=T.objs.size->pO (λa u=>QL[QL.size-1-a]?=Z u) j QL.size->D (.ref T.objs.size) {h with heap:=T.push {cls:=.type "tuple",data:=.seq j},toks:=Q1}):
  wpAny (aO Qy l) O (call (.type "tuple") [.ref G]) D Qt h:=by
 refine Dh (Q₁:=λb c=>c.TypeIs b "tuple" /\ D b c) xZ (F.typeCall_tuple_1 _) F.entry_object_init (vg ?_) λb c d=>⟨d.1,F.args_object_init_2 b _,object_init_meets xZ.init.lookup xZ.made ∅ Qy l O.in1 _ c ⟨d.1,rfl,d.2⟩⟩;show wpAny _ _ (do EX "tuple.__new__" ⟨[.type "tuple",.ref G],[]⟩;again (.builtin "tuple.__new__" ⟨[.type "tuple",.ref G],[]⟩)) _ _ h;refine av (qe (F.newCall_tuple_1 _)<|aS ⟨jv C6 _,iQ F.entry_tuple_new ?_⟩);rw[je C6 _];have t:=sub_tuple_self;have v:=init_tuple_lookup;have w:=madeHere_tuple;have q:h.TypeIs (.ref G) "list_reverseiterator" := g.typeIs
 wp_walk using wpAny_typeOf q,NY (O:=O.in1.in1) k m n g i
 intro T Q1 f da le it;have r:f.size<=sizeLine:=by rw[it.1];exact i
 show wpAny _ _ (bq.Tuple.tupleExact f.toList.toArray >>= λu=>ret u) _ _ _;unfold bq.Tuple.tupleExact;refine av (hJ (aS ?_) (by show f.toList.toArray.size<=sizeLine;simpa using r));rw[D2];exact⟨⟨_,c_ _ rfl,rfl⟩,p _ _ _ da le it⟩
end
section
variable{b:aJ}
def N7(Qw:Φ)(Q9:eW):b2:=(λB j D=>Q9 B j λU QB=>∃q QJ,U=[.ref q]/\cT Qw QB q QJ/\∀x,QB x=Y->D (.ref x) (upd QB x<|.tup QJ.reverse))
def Ij(r:b.calm=X)(s:d3 b "tuple")(v:b.aI "tuple" = Y)(w:d3 b "reversed")(y:b.aI "reversed" = Y)(z:ho b [g] Q9)(Qx:bQ [g] b.env=[(aq,b8 g b.env)]:=by rfl):
  bN b (.Call (.Name "tuple" Rf) [.Call (.Name "reversed" q) [g] [] QK] [] F) (N7 b.K Q9):=by
 intro Q h B j D G c;refine p3 (kz G s v (show ez "tuple" = Z (.type "tuple") by decide +kernel) (n6 ?_ rfl rfl) ∅ ∅);refine ym ?_;refine Call_ (kz G w y (show ez "reversed" = Z (.type "reversed") by decide +kernel)<|n6 (bU (z QK Q h B j _ G c) λQR e ⟨U,QB,f,A,C⟩=>?_) Qx rfl);let⟨x,QJ,d,H,p⟩:=C;subst d;let⟨J,rfl,I⟩:=hF A;cases I;let⟨QD,Ra,bo,L⟩:=f.list H;have l:=Ra.length;have i:=bo.isList;refine call_reversed_list i (wq ?_);have ne:x≠e.heap.objs.size:=let ⟨o,d,_⟩:=i;c1 (b1 d)
 have up:∀m o,e.heap.get? m=Z o->(e.heap.push<|revObj x<|(QD.toArray.size:Int)-1).get? m=Z o:=λm o d=>b6 _ d;have le:e.heap.objs.size<=(e.heap.push<|revObj x<|(QD.toArray.size:Int)-1).objs.size:=by show _<=(e.heap.objs.push _).size;rw[Array.size_push];lia
 refine Nj (QL:=QD.toArray) (f.ok.hd r) ne (i.at λo d=>up _ o d) ⟨_,c_ _ rfl,rfl,rfl⟩ (by simp only[cB];lia) λT Q1 k da M it=>?_;have N:bM QJ.reverse k.toList:=by
  refine rO (show QJ.reverse.length=k.toList.length from (by rw[rJ];exact l.trans ⇑(it.1.symm))) λa u J t E=>?_;have S:a<QJ.length:=by
   have:=(e9.mp t).1
   rwa [rJ]at this
  rw[List.getElem?_reverse S]at t;let⟨R,O,P⟩:=Ra.get t;have:=it.2 a J ⇑E;simp only[cB,yd]at this;rw[<-l,O]at this;cases this;exact P
 have n:=eG le M;exact⟨.ref _,_,f.laid (QZ:=Q1) (o:=.tup QJ.reverse) (λm o d=>b6 _<|da m o (c1<|b1 d)<|up m o d) n ⟨by rw[rJ];exact L,k.toList,N,⟨_,c_ _ rfl,rfl,0,by rw[D2]⟩⟩,rfl,p _<|f.a0.fresh n⟩
@[simp] def wi(L:ay (List bJ)):ay ai:=λy=>(L y).bind λq=>(gA q.2 q.1).bind λI=>match I with
 |[.lst f]=>Z (.im<|.tup f.reverse,q.2)
 |_=>Y
def PO(h:d3 b "tuple")(i:b.aI "tuple" = Y)(k:d3 b "reversed")(l:b.aI "reversed" = Y)(c:fv b [g] L)(Qx:bQ [g] b.env=[(aq,b8 g b.env)]:=by rfl)(m:b.calm=X:=by rfl):
  cm b (.Call (.Name "tuple" Rf) [.Call (.Name "reversed" q) [g] [] QK] [] F) (wi L):=by
 refine er (Ij m h i k l c Qx) λB j D n=>?_;let⟨y,P,s,QQ,N,ao,r,p⟩:=n;let⟨⟨M,QA⟩,t,E⟩:=bG.mp r;let⟨I,v,e⟩:=bG.mp E;refine⟨y,P,M,QA,N,ao,t,λU QB z G f Q5 A=>?_⟩;have C:=Q5.read f v;split at e
 ·cases e;let⟨u,rfl,⟨W,q,w,rfl,Q0,Q6,W⟩⟩:=f7 C;refine⟨q,w,rfl,cT.of Q0,λx aR=>?_⟩;have a:cQ QB (upd QB x<|.tup w.reverse):=(cQ.refl QB).upd aR;exact p _ _ z [] (f.mono a.tupS λg W o d=>a g o d) ⟨⟨x,_,rfl,fa,(Q6.mono a.tupS.tup).rev⟩,rfl⟩ (A.new a gY (λg c=>nomatch c) f.chg)
 ·cases e
end
section
variable{Qy:bz}{l:bc}{Qr:List V->ak->Prop}{O:bl}{Qt:ae->ah->Prop}{h:ah}
def Kt{QI:ak}{b:Bool}(v:O.handled=Y)(m:h.heap.get? x=Z o)(n:o.cls=.type "list")(q:o.data=.seq QL i)(L:O.units+28<bK)(S:∀a u,QL[a]?=Z u->∃e,u=.ref e/\Qr (QC.getD a []) e)(w:∀p e,Qr p e->(d8 Qy l).is h.heap p e)(g:∀a,a<QL.size->(h3 (λa=>QC.getD a []) a).length+1<=300)(y:x≠QI)(j:h.heap.get? QI=Z (kZ b))(z:gr l Qr h.heap QI b [])(c:∀T Q1,gr l Qr T QI b (h3 (λa=>QC.getD a []) QL.size)->(∀e o,e≠QI->h.heap.get? e=Z o->T.get? e=Z o)->D .none {h with heap:=T,toks:=Q1}):
  wpAny (aO Qy l) O (bq.«set.__init__» ⟨[.ref QI,.ref x],[]⟩) (λA Qp=>∃s,A=.done (.ret s)/\D s Qp) Qt h:=by
 let⟨M,N,P,Q⟩:=o;simp only at n q;subst n;subst q;have R:=Ms;have U:=Je;have al:(ae.type "list" == ae.type "dict")=aq:=by decide
 unfold kZ at j;have r:h.heap.IsList x QL:=⟨_,m,rfl,i,rfl⟩;unfold bq.«set.__init__» noKeywords bq.Frozenset.updateFrom;generalize B:ro=jM
 wp_walk
 subst B;refine rr r ?_;refine av (yK ?_);have C:x<h.heap.objs.size:=b1 m;have E:QI<h.heap.objs.size:=b1 j;have F:O.in1.handled=Y:=by simp[v]
 refine NX (b:=b) (Qr:=Qr) (j:=h.heap) (show O.units+25<bK by lia) (kM.list F _ x (c1 C) QL) ?_ (λa=>QC.getD a []) S w ?_ ?_ g (QL.size-0) 0 _ ⋯ (fo _) ?_ ⟨⟨_,c_ _ rfl,rfl,rfl⟩,?_⟩ ?_ λT Q1 G H=>?_
 ·simp only[cu,kq,kJ,not_or];exact⟨c1 E,λd=>y d.symm⟩
 ·intro e o d;rw[cK];exact c1 (b1 d)
 ·intro J QL k f t;rw[j]at f;cases f;cases t
 ·intro e o QL k f t an;exact b6 _ f
 ·let⟨o,I,s⟩:=r;exact⟨o,b6 _ I,s⟩
 ·exact z.at λo d=>b6 _ d
 ·show wpAny _ _ _ _ _ _;refine aS ?_;show wpAny _ _ (ret ae.none) _ _ _;refine aS ⟨_,rfl,c T Q1 H λe o g d=>G e o g ?_<|b6 _ d⟩;rw[cK];exact c1 (b1 d)
def LZ(z:O.handled=Y)(n:h.heap.get? x=Z o)(A:o.cls=.type "list")(B:o.data=.seq QL i)(M:O.units+30<bK)(S:∀a u,QL[a]?=Z u->∃e,u=.ref e/\Qr (QC.getD a []) e)(q:∀p e,Qr p e->(d8 Qy l).is h.heap p e)(C:∀a,a<QL.size->(h3 (λa=>QC.getD a []) a).length+1<=300)(c:∀T Q1,gr l Qr T h.heap.objs.size (jV l) (h3 (λa=>QC.getD a []) QL.size)->(∀e o,h.heap.get? e=Z o->T.get? e=Z o)->D (.ref h.heap.objs.size) {h with heap:=T,toks:=Q1}):
  wpAny (aO Qy l) O (call (.type "set") [.ref x]) D Qt h:=by
 let⟨m,RA,N⟩:=l2.mro;have Q:=l2.made;have R:=l2.sub;refine wpAny_call (vg ?_);show wpAny _ _ (callAny (.type "set") _) _ _ _;refine aS ⟨Code.quiet_builtin _ (by decide +kernel),iQ F.entry_type_call ?_⟩;rw[bl.under_plain (weight_type_call_type "set" [.ref x] []) rfl];have t:=l2.notType;have E:=l2.canCreate;have U:=PySem.F.typeCall_set_1 (.ref x);repeat (any_goals (first|assumption|wp_step))
 refine q0 (Ld (.ref x) (Qt:=Qt) (a:=λr v=>r=.ref h.heap.objs.size/\v={h with heap:=h.heap.push (kZ<|jV l)}) ⟨rfl,rfl⟩) λs v f=>?_;cases s with
 |error d=>exact f
 |ok aR=>
  cases aR with
  |ret r=>
   let⟨rfl,rfl⟩:=f;have w:(h.heap.push<|kZ<|jV l).get? h.heap.objs.size=Z (kZ<|jV l):=c_ _ rfl;have G:ah.TypeIs {h with heap:=h.heap.push (kZ<|jV l)} (.ref h.heap.objs.size) "set" := ⟨_,w,rfl⟩;have am:=l2.init.lookup;have an:=l2.init.bind (.ref h.heap.objs.size);repeat (any_goals (first|assumption|wp_step))
   refine q0 (codeAny_call_builtin (R:=wants (λs b=>s=.none/\∃T Q1,b={h with heap:=T,toks:=Q1}/\
     gr l Qr T h.heap.objs.size (jV l) (h3 (λa=>QC.getD a []) QL.size)/\(∀e o,h.heap.get? e=Z o->T.get? e=Z o)) Qt) l2.init.plain PySem.F.entry_set_init<|check_set_init_1 G ?_) λH b g=>?_
   ·refine gQ (Kt (h:={h with heap:=h.heap.push (kZ<|jV l)}) (by simp[z]) (b6 _ n) A B (by show O.in1.in1.units+28<bK;show O.units+1+1+28<bK;omega) S (λp e y=>⟨(q p e y).1,(q p e y).2.keep λe o W W d W W=>b6 _ d⟩) C (c1<|b1 n) w (gr.fresh _) (D:=λs b=>s=.none/\∃T Q1,b={h with heap:=T,toks:=Q1}/\
     gr l Qr T h.heap.objs.size (jV l) (h3 (λa=>QC.getD a []) QL.size)/\(∀e o,h.heap.get? e=Z o->T.get? e=Z o)) λT Q1 j I=>⟨rfl,T,Q1,rfl,j,λe o d=>I e o (c1<|b1 d)<|b6 _ d⟩) (λap Qp k=>?_) λ_ W d=>d;let⟨s,rfl,k⟩:=k;exact k
   ·cases H with
    |error d=>exact g
    |ok J=>
     cases J with
     |ret s=>
      let⟨rfl,⟨T,Q1,rfl,j,L⟩⟩:=g;repeat (any_goals (first|assumption|wp_step))
      exact c _ _ j L
     |_=>exact g.elim
  |_=>exact f.elim
end
section
variable{b:aJ}{Q:List (ak×a3)}{B:aW}{j:aw}{h:ah}{Qr:List V->ak->Prop}
def LF(E:b.calm=X)(F:b.A.units+30<bK){x:ak}{QC:List (List V)}{QJ:List af}{D:ae->ah->Prop}(G:aA b Q B j h)(H:j x=Z (.lst QJ))(S:bx j (QC.map .tup) QJ)(I:∀n∈QC,V.keys 7 n=X)(U:(gk QC).length<300)(c:∀T Q1 QI,aA b Q B j {h with heap:=T,toks:=Q1}->gr b.w (λn e=>V.keys 7 n=X/\cq j (.tup n) (.ref e)) T QI (jV b.w) (gk QC)->D (.ref QI) {h with heap:=T,toks:=Q1}):
  wpAny (aO b.prog b.w) b.A (call (.type "set") [.ref x]) D b.cE h:=by
 let⟨QD,d,bo,W⟩:=G.list (cT.of H);let⟨o,L,M,r,N⟩:=bo.isList;have P:QD.length=QC.length:=by rw[<-d.length,<-S.length,bj]
 have k:QD.toArray.size=QC.length:=by rw[cB,P]
 refine LZ (Qr:=λn e=>V.keys 7 n=X/\cq j (.tup n) (.ref e)) (QL:=QD.toArray) (QC:=QC) (G.ok.hd E) L M N F (λa u g=>?_) (λp e m=>⟨m.1,m.2.eJ G.a0 rfl⟩) (λa S=>?_) λT Q1 q da=>?_
 ·rw[yd]at g;have s:a<QJ.length:=by rw[d.length];exact (e9.mp g).1
  let⟨J,t,y⟩:=d.get (a:=a) (f:=QJ[a]) (eb s);rw[g]at t;cases t;let⟨v,z,i⟩:=S.at (a:=a) (u:=QJ[a]) (eb s);rw[eH]at z;let⟨n,C,rfl⟩:=cw.mp z;let⟨e,w,R,al,am⟩:=id i;rw[R]at y i;refine⟨e,y,?_⟩;rw[cx,C];exact⟨I n<|fe C,i⟩
 ·rw[k]at S;have:=Na (QC:=QC) (mj S);lia
 ·rw[k,I6]at q;exact c T Q1 _ (G.kept (QZ:=Q1) da) q
def Gj(Q9:eW):b2:=(λB j D=>Q9 B j λU QB=>∃(g:ak) (QC:List (List V)) (QJ:List af),U=[.ref g]/\QB g=Z (.lst QJ)/\bx QB (QC.map .tup) QJ/\(∀n∈QC,V.keys 7 n=X)/\(gk QC).length<300/\D (.int (gk QC).length) QB)
def H5(e:b.calm=X)(f:b.A.units+30<bK)(i:d3 b "len")(k:b.aI "len" = Y)(m:d3 b "set")(n:b.aI "set" = Y)(r:ho b [g] Q9)(Qx:bQ [g] b.env=[(aq,b8 g b.env)]:=by rfl):
  bN b (.Call (.Name "len" Rf) [.Call (.Name "set" q) [g] [] QK] [] F) (Gj Q9):=by
 intro Q h B j D G c;refine p3 (kz G i k (show ez "len" = Z (.builtin "len") by decide +kernel) (CZ ?_ rfl rfl) ∅ ∅);refine ym ?_;refine Call_ (kz G m n (show ez "set" = Z (.type "set") by decide +kernel)<|n6 (bU (r QK Q h B j _ G c) λQR a ⟨U,QB,s,t,u⟩=>?_) Qx rfl);let⟨x,QC,QJ,rfl,v,S,z,C,p⟩:=u;let⟨J,rfl,E⟩:=hF t;cases E;refine LF e f s v S z C λT Q1 QI H I=>wq ?_;let⟨o,Qs,Rc,A,L,M,N,y⟩:=I;have d:Qs.size=(gk QC).length:=y.num;have P:A.fits Qs.size=X:=y.fit;have R:d4 b Q B D (.int Qs.size<|Q1+1) {a with heap:=T,toks:=Q1+1+1}:=⟨.int (gk QC).length,QB,H.tok _,⟨Q1+1,by rw[d]⟩,p⟩;exact call_len_set (prog:=b.prog) (w:=b.w) (s:={a with heap:=T,toks:=Q1}) L M N P (by rw[d];lia) R
def sS(L:ay (List bJ)):ay ai:=(λy=>(L y).bind λq=>(gA q.2 q.1).bind λI=>match I with
 |[.lst f]=>(ox f).bind λQC=>if pB QC=X then Z (.im<|.int (gk QC).length,q.2) else Y
 |_=>Y)
def Pf(i:b.A.units+30<bK)(k:d3 b "len")(l:b.aI "len" = Y)(m:d3 b "set")(n:b.aI "set" = Y)(a:fv b [g] L)(Qx:bQ [g] b.env=[(aq,b8 g b.env)]:=by rfl)(o:b.calm=X:=by rfl):
  cm b (.Call (.Name "len" Rf) [.Call (.Name "set" q) [g] [] QK] [] F) (sS L):=by
 refine er (H5 o i k l m n a Qx) λB j D r=>?_;let⟨y,P,s,QQ,N,ao,v,p⟩:=r;let⟨⟨M,QA⟩,t,E⟩:=bG.mp v;let⟨I,x,c⟩:=bG.mp E;refine⟨y,P,M,QA,N,ao,t,λU QB z R d Q5 C=>?_⟩;have G:=Q5.read d x;split at c
 ·rename_i f;let⟨QC,H,h⟩:=bG.mp c;split at h
  ·rename_i J;cases h;let⟨u,rfl,⟨W,e,w,rfl,Q,S,W⟩⟩:=f7 G;cases CE H;let⟨Q0,Q6⟩:=E6.mp J;refine⟨e,QC,w,rfl,Q,S,Q0,Q6,?_⟩;exact p _ _ z [] d ⟨rfl,rfl⟩ (C.new (cQ.refl QB) gY (λg a=>(kq a).elim) d.chg)
  ·cases h
 ·cases c
end
end L2
namespace G
open L2
def Mb:bP:=((bC (bV 1<|az bD (aj 0)<|ag<|aC<|.int 0)<|bC (bV 2<|az bD (aj 0)<|ag<|aC<|.int 1)<|c8<|eu<|ar (ag<|dA<|ar (ag<|az mL (aj 1)<|ag<|aC<|.int 1)<|ar (aj 2) aF)<|ar (ag<|dA<|ar (aj 1)<|ar (ag<|az mL (aj 2)<|ag<|aC<|.int 1) aF)<|ar (ag<|dA<|ar (aj 1)<|ar (ag<|az eo (aj 2)<|ag<|aC<|.int 1) aF)<|ar (ag<|dA<|ar (ag<|az eo (aj 1)<|ag<|aC<|.int 1)<|ar (aj 2) aF) aF))
def o2:dH:=(d1 1 3 [0] Mb)
def Fe:ay ai:=((dA<|ar (aj 0)<|ar (ag<|aC<|.str "in") aF))
def yN:ay Bool:=((bu<|az ha (aj 0)<|aj 1))
def uN:bP:=((bC (bV 2<|az bD (aj 1)<|ag<|aC<|.int 0)<|bC (df (bu<|az d7 (ag<|az bD (aj 1)<|ag<|aC<|.int 1)<|ag<|aC<|.str "in") (c8<|eu<|ar (ag<|dA<|ar (ag<|az bD (aj 0)<|aj 2)<|ar (ag<|aC<|.str "out") aF) aF) d6)<|c8<|az eo (ag<|eu<|ar (ag<|dA<|ar (aj 2)<|ar (ag<|aC<|.str "in") aF) aF)<|ag<|cR 1 [0] (cN<|ag<|bT 1 G.o2<|ar (aj 2) aF) (bH 0) G.yN G.Fe))
def n1:dH:=(d1 2 3 [0,1] uN)
def qf:bP:=((df (bu<|az fE (aj 7)<|aj 3) (bC (h9 (fh 6)<|kb 3 (fh 7) jy)<|kc<|hb hO 5 lr<|ar (aj 7) aF) d6))
def q5:bP:=((f9 (cN<|ag<|bT 2 G.n1<|ar (aj 0)<|ar (aj 6) aF) (bH 7) G.qf))
def Af:ay Bool:=((fU<|aj 4))
def vM:bP:=((bC (bV 5<|eu aF)<|bC (f9 (cN<|aj 4) (bH 6) G.q5)<|bV 4<|fh 5))
def C5:bP:=((bC (bV 2<|dA<|ar (aj 1)<|ar (ag<|aC<|.str "out") aF)<|bC (bV 3<|tD (fh 2)<|aC .aT)<|bC (bV 4<|eu<|ar (aj 2) aF)<|bC (h2 G.Af G.vM 1000000)<|c8<|fh 3))
def pH:dH:=(d1 2 8 [0,1] C5)
def FG:ay Bool:=((bu<|az (tW X) (ag<|az bD (aj 1)<|aj 3)<|ag<|aC .aT))
def t6:bP:=((bC (df (bu<|az d7 (ag<|az bD (aj 3)<|ag<|aC<|.int 1)<|ag<|aC<|.str "in") (h9 (az bD (ag<|az bD (aj 1)<|aj 3)<|ag<|aC<|.int 0)<|kb 0 (az bD (aj 3)<|ag<|aC<|.int 0) jy) d6)<|bV 3<|az bD (aj 1)<|aj 3))
def Ah:bP:=((bC (bV 3<|dA<|ar (aj 2)<|ar (ag<|aC<|.str "out") aF)<|h2 G.FG G.t6 1000000))
def qZ:dH:=(d1 3 4 [0,1,2] Ah)
def yC:ay Bool:=((bu<|az eB (ag<|az bD (aj 3)<|ag<|lh<|aC<|.int 1)<|aj 1))
def yX:bP:=((kc<|hb hO 3 lr<|ar (ag<|az bD (aj 0)<|ag<|az bD (aj 3)<|ag<|lh<|aC<|.int 1) aF))
def zJ:bP:=((bC (bV 3<|eu<|ar (aj 2) aF)<|bC (h2 G.yC G.yX 1000000)<|c8<|fh 3))
def pb:dH:=(d1 3 4 [0,1,2] zJ)
def FX:ay ai:=((dA<|ar (aj 0)<|ar (aj 0) aF))
def wH:ay Bool:=((bu<|az ha (ag<|dA<|ar (aj 2)<|ar (ag<|aC<|.str "in") aF)<|aj 5))
def sQ:bP:=((bC (kc<|hb hO 4 lr<|ar (ag<|az bD (ag<|az bD (aj 5)<|ag<|dA<|ar (aj 2)<|ar (ag<|aC<|.str "in") aF)<|ag<|aC<|.int 0) aF)<|bC (kc<|bT 3 G.qZ<|ar (aj 3)<|ar (aj 5)<|ar (ag<|az bD (aj 4)<|ag<|lh<|aC<|.int 1) aF)<|bV 5<|bT 2 G.pH<|ar (aj 3)<|ar (aj 1) aF))
def FJ:ay ai:=((fh 0))
def yH:ay Bool:=((fu (bu<|az ha (ag<|dA<|ar (aj 0)<|ar (ag<|aC<|.str "in") aF)<|aj 1)<|bu<|az fE (ag<|dA<|ar (aj 0)<|ar (ag<|aC<|.str "out") aF)<|aj 1))
def sM:ay ai:=((wi<|ar (ag<|az eo (ag<|eu<|ar (aj 1) aF)<|ag<|bT 3 G.pb<|ar (aj 2)<|ar (aj 3)<|ar (aj 0) aF) aF))
def De:bP:=((bC (df (ff (bu<|az d7 (aj 1)<|aj 2)<|bu<|az ha (aj 2)<|ag<|bT 1 G.o2<|ar (aj 1) aF) Fu d6)<|bC (bV 3<|b9 ij<|ar (ag<|cR 1 [] (cN<|aj 0) (bH 0) dN G.FX) aF)<|bC (bV 4<|eu aF)<|bC (bV 5<|bT 2 G.pH<|ar (aj 3)<|ar (aj 1) aF)<|bC (h2 G.wH G.sQ 1000000)<|bC (bV 6<|cR 1 [5] (cN<|aj 0) (bH 0) G.yH G.FJ)<|bC (bV 7<|cR 1 [2,3,1] (cN<|aj 4) (bH 0) dN G.sM)<|c8<|dA<|ar (ag<|b9 kF<|ar (aj 6) aF)<|ar (ag<|b9 kF<|ar (ag<|b9 jl<|ar (aj 7) aF) aF) aF))
def qx:dH:=(d1 3 8 [0,1,2] De)
def Ig:ay ai:=((hu<|fu (bu<|lY "int"<|aj 0)<|bu<|hu<|gD<|bu<|lY "bool"<|aj 0))
def uj:bP:=((bC (df (ff (gD<|fU<|ag<|lY "tuple"<|aj 2)<|ff (bu<|az eB (ag<|b9 dy<|ar (aj 2) aF)<|ag<|aC<|.int 2)<|bu<|az fE (aj 2)<|aj 0) (c8<|aC<|.ax aq) d6)<|df (gD<|fU<|ag<|b9 lZ<|ar (ag<|cR 1 [] (cN<|aj 2) (bH 0) dN G.Ig) aF) (c8<|aC<|.ax aq) d6))
def DX:ay ai:=((az ha (aj 1)<|ag<|bT 1 G.k2<|ar (aj 0) aF))
def C3:bP:=((bC (df (ff (gD<|fU<|ag<|lY "tuple"<|aj 1)<|bu<|az d7 (ag<|b9 dy<|ar (aj 1) aF)<|ag<|aC<|.int 0) (c8<|aC<|.ax aq) d6)<|bC (f9 (cN<|aj 1) (bH 2) G.uj)<|c8<|b9 lZ<|ar (ag<|cR 2 [] (pD<|ar (aj 1)<|ar (ag<|j4 (aj 1) (kr<|aC<|.int 1) lJ) aF) (og 2<|iw (bH 0)<|iw (bH 1) mU) dN G.DX) aF))
def pR:dH:=(d1 2 3 [0,1] C3)
def vO:ay ai:=((fh 0))
def sv:ay Bool:=((fu (bu<|az eB (aj 0)<|aj 1)<|bu<|az fE (aj 0)<|ag<|bT 1 G.k2<|ar (aj 1) aF))
def yl:bP:=((bC (bV 2<|az bD (aj 1)<|ag<|bT 2 G.fA<|ar (aj 0)<|ar (ag<|b9 dy<|ar (aj 1) aF) aF)<|bC (bV 3<|cR 1 [2] (cN<|aj 1) (bH 0) G.sv G.vO)<|bC (df (bu<|az d7 (aj 3)<|ag<|eu aF) (c8<|aC .aT) d6)<|c8<|dA<|ar (aj 2)<|ar (ag<|az bD (aj 3)<|ag<|bT 2 G.fA<|ar (aj 0)<|ar (ag<|b9 dy<|ar (aj 3) aF) aF) aF))
def oz:dH:=(d1 2 4 [0,1] yl)
def z4:ay ai:=((fh 0))
def EO:ay Bool:=((bu<|az fE (aj 0)<|aj 1))
def E0:bP:=((c8<|az fE (aj 2)<|ag<|bT 2 G.kG<|ar (ag<|cR 1 [3] (cN<|aj 0) (bH 0) G.EO G.z4)<|ar (aj 1) aF))
def oQ:dH:=(d1 4 4 [0,1,2,3] E0)
def Di:ay ai:=((bT 2 G.pR<|ar (aj 1)<|ar (ag<|dA<|ar (aj 0) aF) aF))
def y6:ay ai:=((dA<|ar (aj 0)<|ar (ag<|aC<|.ax X) aF))
def AZ:bP:=((bC (df (ff (gD<|fU<|ag<|lY "tuple"<|aj 1)<|gD<|fU<|ag<|b9 lZ<|ar (ag<|cR 1 [0] (cN<|aj 1) (bH 0) dN G.Di) aF) (c8<|aC<|.ax aq) d6)<|c8<|az d7 (ag<|b9 qR<|ar (aj 1) aF)<|ag<|b9 jl<|ar (ag<|b9 ij<|ar (ag<|cR 1 [] (cN<|aj 1) (bH 0) dN G.y6) aF) aF))
def rG:dH:=(d1 2 2 [0,1] AZ)
def Dl:ay ai:=((bT 2 G.pR<|ar (aj 1)<|ar (aj 0) aF))
def FF:ay ai:=((dA<|ar (aj 0)<|ar (ag<|aC<|.ax X) aF))
def rp:bP:=((bC (df (ff (bu<|az wd (ag<|b9 dy<|ar (aj 5) aF)<|ag<|aC<|.int 2)<|ff (bu<|az eB (ag<|az bD (aj 5)<|ag<|aC<|.int 0)<|aj 1)<|bu<|az eB (ag<|az bD (aj 5)<|ag<|lh<|aC<|.int 1)<|aj 2) (c8<|aC<|.ax aq) d6)<|bV 4<|az eo (aj 4)<|ag<|b9 qR<|ar (ag<|j4 (aj 5) (kr<|aC<|.int 1)<|kr<|lh<|aC<|.int 1) aF))
def Eu:bP:=((bC (df (ff (gD<|fU<|ag<|lY "tuple"<|aj 3)<|gD<|fU<|ag<|b9 lZ<|ar (ag<|cR 1 [0] (cN<|aj 3) (bH 0) dN G.Dl) aF) (c8<|aC<|.ax aq) d6)<|bC (df (bu<|az eB (ag<|b9 qR<|ar (aj 3) aF)<|ag<|b9 jl<|ar (ag<|b9 ij<|ar (ag<|cR 1 [] (cN<|aj 3) (bH 0) dN G.FF) aF) aF) (c8<|aC<|.ax aq) d6)<|bC (bV 4<|eu aF)<|bC (f9 (cN<|aj 3) (bH 5) G.rp)<|c8<|hu<|fu (bu<|az d7 (ag<|b9 dy<|ar (aj 4) aF)<|ag<|sS<|ar (aj 4) aF)<|fu (bu<|az fE (aj 1)<|aj 4)<|bu<|az fE (aj 2)<|aj 4))
def rC:dH:=(d1 4 6 [0,1,2,3] Eu)
def CX:bP:=((bC (df (ff (gD<|fU<|ag<|bT 2 G.rG<|ar (aj 0)<|ar (aj 3) aF)<|ff (bu<|az ha (aj 1)<|aj 3)<|ff (bu<|az ha (aj 2)<|aj 3)<|gD<|fU<|ag<|bT 4 G.oQ<|ar (aj 0)<|ar (aj 1)<|ar (aj 2)<|ar (aj 3) aF) (c8<|aC<|.ax aq) d6)<|c8<|hu<|fu (bu<|bT 4 G.rC<|ar (aj 0)<|ar (aj 1)<|ar (aj 2)<|ar (aj 4) aF)<|bu<|az d7 (ag<|b9 dy<|ar (aj 4) aF)<|ag<|b9 dy<|ar (aj 3) aF))
def sL:dH:=(d1 5 5 [0,1,2,3,4] CX)
def yE(a:dH):bP:=((df (fu (bu<|az eB (aj 5)<|aj 1)<|fu (bu<|az eB (aj 5)<|aj 2)<|ff (bu<|az d7 (aj 3)<|ag<|eu aF)<|bu<|az qC (aj 5)<|ag<|az bD (aj 3)<|ag<|lh<|aC<|.int 1) (df (fU<|ag<|bT 5 a<|ar (aj 0)<|ar (aj 1)<|ar (aj 2)<|ar (ag<|az eo (aj 3)<|ag<|eu<|ar (aj 5) aF)<|ar (aj 4) aF) (c8<|aC<|.ax X) d6) d6))
def Dm(a:dH):bP:=((bC (df (fU<|ag<|bT 4 G.oQ<|ar (aj 0)<|ar (aj 1)<|ar (aj 2)<|ar (aj 3) aF) (c8<|aC<|.ax X) d6)<|bC (df (bu<|az d7 (aj 4)<|ag<|b9 dy<|ar (aj 3) aF) (c8<|aC<|.ax aq) d6)<|bC (f9 (cN<|aj 0) (bH 5)<|G.yE a)<|c8<|aC<|.ax aq))
def mv:Nat->dH
 |0=>λ_=>Y
 |n+1=>d1 5 6 [0,1,2,3,4] (Dm<|mv n)
def tk:bP:=((bC (bV 2<|bT 2 G.o3<|ar (aj 0)<|ar (aj 1) aF)<|bC (bV 3<|bT 2 G.pk<|ar (aj 2)<|ar (ag<|aC<|.int 14) aF)<|bC (bV 3<|bT 2 G.kG<|ar (ag<|j4 (aj 3) lJ<|kr<|aC<|.int 14)<|ar (ag<|az bD (aj 3)<|ag<|aC<|.int 0) aF)<|bC (bV 4<|bT 2 G.oz<|ar (aj 2)<|ar (aj 3) aF)<|df (bu<|az (tW X) (aj 4)<|ag<|aC .aT) (bC (bV 5<|bT 3 G.qx<|ar (aj 3)<|ar (ag<|az bD (aj 4)<|ag<|aC<|.int 0)<|ar (ag<|az bD (aj 4)<|ag<|aC<|.int 1) aF)<|bC (df (ff (gD<|fU<|ag<|lY "tuple"<|aj 5)<|bu<|az eB (ag<|b9 dy<|ar (aj 5) aF)<|ag<|aC<|.int 2) (c8<|aC<|.ax aq) d6)<|bC (h9 (fh 5)<|og 2<|iw (bH 6)<|iw (bH 7) mU)<|bC (df (ff (gD<|fU<|ag<|bT 5 G.sL<|ar (aj 3)<|ar (ag<|az bD (aj 4)<|ag<|aC<|.int 0)<|ar (ag<|az bD (aj 4)<|ag<|aC<|.int 1)<|ar (aj 6)<|ar (aj 7) aF)<|bu<|az eB (ag<|bT 3 G.qx<|ar (aj 3)<|ar (ag<|az bD (aj 4)<|ag<|aC<|.int 0)<|ar (ag<|az bD (aj 4)<|ag<|aC<|.int 1) aF)<|aj 5) (c8<|aC<|.ax aq) d6)<|df (fU<|ag<|bT 5 (G.mv 6)<|ar (aj 3)<|ar (ag<|az bD (aj 4)<|ag<|aC<|.int 0)<|ar (ag<|az bD (aj 4)<|ag<|aC<|.int 1)<|ar (ag<|eu aF)<|ar (ag<|az mL (ag<|b9 dy<|ar (aj 6) aF)<|ag<|aC<|.int 1) aF) (c8<|aC<|.ax aq) d6) d6))
def yY:bP:=((bC (f9 (i7<|ar (ag<|aC<|.int 4) aF) (bH 1) G.tk)<|c8<|aC<|.ax X))
def n9:dH:=(d1 1 8 [0] yY)
end G
namespace bI
variable{af:Type}[DecidableEq af]
structure dm(P:List af)(b:af->af->Prop)(g e:af)(C:af->af)(D:List af):Prop where
 ed:C g=g
 vY:C e=e
 fi:∀m,C m≠m->m∈P/\C m∈P/\b (C m) m
 one:∀m v,C m≠m->C v≠v->C m=C v->C m≠g->m=v
 on:∀m,C m≠m->C m≠g->C (C m)≠C m
 ao:D.Nodup
 last:∀x∈D,C x≠x/\b x e/\∀v,C v≠v->C v≠x
 ends:∀m,C m≠m->(∀v,C v≠v->C v≠m)->m∈D
structure Rs(P:List af)(b:af->af->Prop)(g e:af)(C:af->af)(QI:af->Bool->Prop):Prop where
 start:QI g X
 back:∀m,QI m aq->QI (C m) X
 c7:∀m,QI m X->QI m aq
 next:∀m v,QI m X->b m v->QI v aq
 u1:¬ QI e aq
variable{P:List af}{b:af->af->Prop}{g e:af}{C:af->af}{D:List af}{QI:af->Bool->Prop}
def Cut(QI:af->Bool->Prop)(m:af):Prop:=(QI m aq/\¬ QI m X)
def Cut.fi(Qu:Rs P b g e C QI){m:af}(c:Cut QI m):C m≠m:=λd=>c.2 (by have:=Qu.back m c.1;rwa [d]at this)
def it(C:af->af):Nat->af->af
 |0,m=>m
 |r+1,m=>it C r (C m)
theorem il(C:af->af):∀(r:Nat) (m:af),it C (r+1) m=C (it C r m)
 |0,m=>rfl
 |r+1,m=>il C r (C m)
theorem up(Qu:Rs P b g e C QI){m:af}(c:QI m X):∀r,QI (it C r m) X
 |0=>c
 |r+1=>by rw[il];exact Qu.back _ (Qu.c7 _<|up Qu c r)
theorem kV(C:af->af)(k:Nat):∀(r:Nat) (m:af),it C (k+r) m=it C k (it C r m)
 |0,m=>rfl
 |r+1,m=>kV C k r (C m)
def dm.ne(W:dm P b g e C D){m:af}(c:C m≠m):m≠g:=λd=>c (d ▸ W.ed)
theorem dm.pull(W:dm P b g e C D){m v:af}:∀r:Nat,(∀a,a<=r->C (it C a m)≠it C a m)->(∀a,a<=r->C (it C a v)≠it C a v)->it C r m=it C r v->m=v
 |0,_,_,d=>d
 |r+1,c,f,d=>by
  rw[il,il]at d;refine W.pull r (λa S=>c a (by omega)) (λa S=>f a (by omega)) (W.one _ _ (c r (by omega)) (f r (by omega)) d λh=>?_);have:=c (r+1) (a5 _);rw[il,h]at this;exact this W.ed
def dm.dist(W:dm P b g e C D){x:af}(f:x∈D){a i:Nat}(j:a<i)(c:∀n,n<=i->C (it C n x)≠it C n x):it C a x≠it C i x:=λd=>by
 obtain⟨n,rfl⟩:∃n,i=a+(n+1):=⟨i-a-1,by omega⟩;rw[kV]at d;have:=W.pull a (m:=x) (v:=it C (n+1) x) (λk h=>c k (by omega)) (λk h=>by rw[<-kV];exact c _ (by omega)) d;rw[il]at this;exact (W.last x f).2.2 _ (c n (by omega)) this.symm
def rP{P:List af}{L:Nat->af}{r:Nat}(d:∀a<r,L a∈P)(e:∀a i,a<i->i<r->L a≠L i):r<=P.length:=by
 have ao:((range r).map L).Nodup:=by
  rw[mS,lG];exact xg.imp_of_mem λ{f H} b g c=>e f H c (e0.mp g)
 have:=ao.length_le_of_subset (l₂:=P) (by
  intro f b;let⟨a,S,rfl⟩:=cO.mp b;exact d a (e0.mp S))
 rwa [bj,hq]at this
def dm.comes(W:dm P b g e C D){x:af}(l:x∈D):∃r,it C (r+1) x=g/\∀n,n<=r->C (it C n x)≠it C n x:=by
 have Rh:∃k,C (it C k x)=it C k x:=k7 λh=>by
  have all:∀n,C (it C n x)≠it C n x:=λn d=>h ⟨n,d⟩;have:=rP (P:=P) (L:=λn=>it C n x) (r:=P.length+1) (λa U=>(W.fi _<|all a).1) λa i m U=>W.dist l m λn U=>all n;omega
 obtain⟨k,f,lt⟩:∃k,C (it C k x)=it C k x/\∀n<k,C (it C n x)≠it C n x:=by
  let⟨k,f⟩:=Rh;induction k using Nat.strongRecOn with
  |ind k o=>
   by_cases c:∃n<k,C (it C n x)=it C n x
   ·let⟨n,j,d⟩:=c;exact o n j d
   ·exact⟨k,f,λn j d=>c ⟨n,j,d⟩⟩
 cases k with
 |zero=>exact absurd f (W.last x l).1
 |succ r=>
  refine⟨r,k7 λh=>?_,λn j=>lt n (by omega)⟩;rw[il]at f h;exact W.on _ (lt r (by omega)) h f
def dm.meets(W:dm P b g e C D)(Qu:Rs P b g e C QI){x:af}(i:x∈D):∃r,Cut QI (it C r x)/\∀n,n<=r->C (it C n x)≠it C n x:=by
 let⟨Q2,l,fi⟩:=W.comes i;have m:¬ QI (it C 0 x) X:=λf=>Qu.u1 (Qu.next _ _ f (W.last x i).2.1);have M:∀r,r<=Q2+1->(∀n,n<=r->¬ QI (it C n x) X)\/∃n<r,¬ QI (it C n x) X/\QI (it C (n+1) x) X:=λr=>by
  induction r with
  |zero=>exact λ_=>.inl λn h=>by rw[vQ.mp h];exact m
  |succ r o=>
   intro s;rcases o (by omega) with c|⟨n,h,d⟩
   ·by_cases f:QI (it C (r+1) x) X
    ·exact .inr ⟨r,by omega,c r<|a5 _,f⟩
    ·refine .inl λn h=>?_;rcases e4 n (r+1) with p|p
     ·exact c n (by omega)
     ·rw[show n=r+1 by omega];exact f
   ·exact .inr ⟨n,by omega,d⟩
 rcases M (Q2+1) (a5 _) with c|⟨n,h,q,j⟩
 ·exact absurd Qu.start (by have:=c (Q2+1) (a5 _);rwa [l]at this)
 ·have k:=fi n (by omega);rw[il]at j;exact⟨n,⟨Qu.next _ _ j (W.fi _ k).2.2,q⟩,λa S=>fi a (by omega)⟩
def Rs.once(Qu:Rs P b g e C QI){x:af}{r k:Nat}(t:Cut QI (it C r x))(E:Cut QI (it C k x)):r=k:=by
 have M:∀{r k:Nat},r<k->Cut QI (it C r x)->Cut QI (it C k x)->False:=λ{r k} c t E=>by
  obtain⟨n,rfl⟩:∃n,k=n+(r+1):=⟨k-r-1,by omega⟩;rw[kV,il]at E;exact E.2 (up Qu (Qu.back _ t.1) n)
 rcases mu r k with c|c|c
 ·exact absurd (M c t E) id
 ·exact c
 ·exact absurd (M c E t) id
def dm.inj(W:dm P b g e C D){x k:af}(f:x∈D)(h:k∈D){a i:Nat}(t:∀n,n<=a->C (it C n x)≠it C n x)(E:∀n,n<=i->C (it C n k)≠it C n k)(d:it C a x=it C i k):x=k:=by
 have M:∀{x k:af},x∈D->k∈D->∀{a i:Nat},a<=i->(∀n,n<=a->C (it C n x)≠it C n x)->(∀n,n<=i->C (it C n k)≠it C n k)->it C a x=it C i k->x=k:=λ{x k} f h {a i} j t E d=>by
  obtain⟨n,rfl⟩:∃n,i=a+n:=⟨i-a,by omega⟩;rw[kV]at d;have:=W.pull a t (λp l=>by rw[<-kV];exact E _ (by omega)) d;cases n with
  |zero=>exact this
  |succ n=>
   rw[il]at this;exact absurd this.symm ((W.last x f).2.2 _ (E n (by omega)))
 rcases Nat.le_total a i with c|c
 ·exact M f h c t E d
 ·exact (M h f c E t d.symm).symm
def dm.JR(W:dm P b g e C D)(Qu:Rs P b g e C QI){m:af}(k:Cut QI m):∃x∈D,∃r,it C r x=m/\∀n,n<=r->C (it C n x)≠it C n x:=by
 have go:∀(j n:Nat) (v:af),P.length+1<=j+n->it C n v=m->(∀a,a<=n->C (it C a v)≠it C a v)->∃x∈D,∃r,it C r x=m/\∀n,n<=r->C (it C n x)≠it C n x:=λj=>by
  induction j with
  |zero=>
   intro n v o d fi;exfalso;have:=rP (P:=P) (L:=λa=>it C a v) (r:=n+1) (λa S=>(W.fi _ (fi a (by omega))).1) λa i w y h=>by
    have h:it C a v=it C i v:=h;obtain⟨p,rfl⟩:∃p,n=p+i:=⟨n-i,by omega⟩;obtain⟨s,rfl⟩:∃s,i=a+(s+1):=⟨i-a-1,by omega⟩;have q:it C (p+a) v=m:=by rw[kV,h,<-kV];exact d
    have t:it C (s+1) m=m:=by
     have:it C ((s+1)+(p+a)) v=m:=by rw[show s+1+(p+a)=p+(a+(s+1)) by omega];exact d
     rw[kV,q]at this;exact this
    exact k.2 (by rw[<-t];exact up Qu (Qu.back _ k.1) s)
   omega
  |succ j u=>
   intro n v o d fi;by_cases c:∃f,C f≠f/\C f=v
   ·let⟨f,l,rfl⟩:=c;refine u (n+1) f (by omega) d λa S=>?_;cases a with
    |zero=>exact l
    |succ a=>exact fi a (by omega)
   ·exact⟨v,W.ends v (fi 0<|fo _) λf l h=>c ⟨f,l,h⟩,n,d,fi⟩
 exact go (P.length+1) 0 m (by omega) rfl λa S=>by rw[vQ.mp S];exact Cut.fi Qu k
def dm.many(W:dm P b g e C D)(Qu:Rs P b g e C QI)(w:P.Nodup){p:af->Bool}(j:∀m∈P,p m=X↔Cut QI m):(P.filter p).length=D.length:=by
 have l:∀x:af,∃m:af,x∈D->Cut QI m/\∃r,it C r x=m/\∀n,n<=r->C (it C n x)≠it C n x:=λx=>by
  by_cases c:x∈D
  ·let⟨r,t,E⟩:=W.meets Qu c;exact⟨_,λ_=>⟨t,r,rfl,E⟩⟩
  ·exact⟨x,λy=>absurd y c⟩
 obtain⟨a,h⟩:∃a:af->af,∀x,x∈D->Cut QI (a x)/\∃r,it C r x=a x/\∀n,n<=r->C (it C n x)≠it C n x:=⟨λx=>(l x).choose,λx=>(l x).choose_spec⟩;have ao:(D.map a).Nodup:=by
  rw[mS,lG];refine (mS.mp W.ao).imp_of_mem λ{f H} o q c d=>c ?_;let⟨U,r,z,A⟩:=h f o;let⟨U,k,B,F⟩:=h H q;exact W.inj o q A F (by rw[z,B,d])
 have T:(P.filter p).Perm (D.map a):=(vz (w.filter _) ao).mpr λm=>by
  rw[hS,cO];constructor
  ·rintro⟨t,E⟩;have s:=(j m t).mp E;let⟨x,i,r,d,fi⟩:=W.JR Qu s;let⟨G,k,u,U⟩:=h x i;refine⟨x,i,?_⟩;rw[<-u,<-d,Qu.once (x:=x) (r:=k) (k:=r) (by rw[u];exact G) (by rw[d];exact s)]
  ·rintro⟨x,i,rfl⟩;have:=(h x i).1;have v:=(W.fi _<|Cut.fi Qu this).1;exact⟨v,(j _ v).mpr this⟩
 rw[T.length_eq,bj]
end bI
namespace bI
variable{af:Type}[DecidableEq af]{P:List af}{b:af->af->Prop}{g e:af}{C L:af->af}{D:List af}
structure pa(P:List af)(b:af->af->Prop)(g e:af)(C L:af->af)(n:Nat)(m v:Nat->af):Prop where
 jI:v 0=g
 ds:∀a<n,v (a+1)=C (m a)
 step:∀a<n,m a=v a\/b (v a) (m a)
 ci:∀a i,a<n->i<n->m a=m i->a=i
 pC:∀a i,a<=n->i<=n->v a=v i->a=i
 nb:∀a<n,m a≠e
 cZ:∀a<n,L (m a)=v a
 e2:∀f,(∀a<n,m a≠f)->L f=C f
variable{n:Nat}{m v:Nat->af}
def pa.na(W:dm P b g e C D)(Qr:pa P b g e C L n m v){a:Nat}(S:a<n):m a≠g:=λd=>by
 have:=Qr.ds a S;rw[d,W.ed,<-Qr.jI]at this;exact absurd (Qr.pC _ _ (by omega) (by omega) this) (by omega)
def pa.out(Qr:pa P b g e C L n m v){a:Nat}(S:a<=n)(c:v a≠g):∃i<n,a=i+1/\v a=C (m i):=by
 cases a with
 |zero=>exact absurd Qr.jI c
 |succ i=>exact⟨i,by omega,rfl,Qr.ds i (by omega)⟩
def lay(W:dm P b g e C D)(Qr:pa P b g e C L n m v)(F:∀f H,b f H->f∈P/\H∈P)(G:b (v n) e)(O:¬ b g e):dm P b g e L (D++[v n]):=by
 have J:v n≠g:=λd=>O (by rw[<-d];exact G);have r:∀f,(∃a<n,m a=f)\/∀a<n,m a≠f:=λf=>by
  by_cases c:∃a<n,m a=f
  ·exact .inl c
  ·exact .inr λa S d=>c ⟨a,S,d⟩
 have A:∀x∈D,∀a,a<=n->v a≠x:=λx q a S d=>by
  have E:=(W.last x q).1;let⟨i,j,rfl,o⟩:=Qr.out S (by rw[d];exact W.ne E);rw[d]at o;by_cases k:C (m i)=m i
  ·rw[k]at o;rw[o]at E;exact E k
  ·exact (W.last x q).2.2 _ k o.symm
 have y:∀f,C f≠f->(∀a<n,m a≠f)->C f≠g->∀a,a<=n->v a≠C f:=λf h bg z a S d=>by
  let⟨i,j,rfl,o⟩:=Qr.out S (by rw[d];exact z);rw[d]at o;by_cases k:C (m i)=m i
  ·have:=W.on f h z;rw[o,k,k]at this;exact this rfl
  ·exact bg i j (W.one _ _ k h o.symm (by rw[<-o];exact z))
 have M:∀a,a<=n->v a≠g->(∀i<n,m i≠v a)->C (v a)≠v a:=λa S z Q=>by
  let⟨i,j,rfl,o⟩:=Qr.out S z;by_cases k:C (m i)=m i
  ·rw[k]at o;exact absurd o.symm (Q i j)
  ·rw[o];exact W.on _ k (by rw[<-o];exact z)
 refine⟨?_,?_,λf h=>?_,λf H h s d z=>?_,λf h z=>?_,?_,λx q=>?_,λf h bg=>?_⟩
 ·rw[Qr.e2 g λa S=>Qr.na W S];exact W.ed
 ·rw[Qr.e2 e λa S=>Qr.nb a S];exact W.vY
 ·rcases r f with ⟨a,S,rfl⟩|c
  ·rw[Qr.cZ a S]at h ⊢;have ad:=(Qr.step a S).resolve_left λt=>h t.symm;exact⟨(F _ _ ad).2,(F _ _ ad).1,ad⟩
  ·rw[Qr.e2 f c]at h ⊢;exact W.fi f h
 ·rcases r f with ⟨a,S,rfl⟩|u<;>rcases r H with ⟨i,j,rfl⟩|l
  ·rw[Qr.cZ a S,Qr.cZ i j]at d;rw[Qr.pC a i (by omega) (by omega) d]
  ·rw[Qr.cZ a S,Qr.e2 H l]at d;rw[Qr.cZ a S,d]at z;rw[Qr.e2 H l]at s;exact absurd d (y H s l z a (by omega))
  ·rw[Qr.e2 f u,Qr.cZ i j]at d;rw[Qr.e2 f u]at z h;exact absurd d.symm (y f h u z i (by omega))
  ·rw[Qr.e2 f u,Qr.e2 H l]at d;rw[Qr.e2 f u]at z h;rw[Qr.e2 H l]at s;exact W.one f H h s d z
 ·rcases r f with ⟨a,S,rfl⟩|u
  ·rw[Qr.cZ a S]at h z ⊢;rcases r (v a) with ⟨i,j,w⟩|c
   ·rw[<-w,Qr.cZ i j,w];intro t;have:=Qr.pC i a (by omega) (by omega) t;subst this;exact h w.symm
   ·rw[Qr.e2 _ c];exact M a (by omega) z c
  ·rw[Qr.e2 f u]at h z ⊢;rcases r (C f) with ⟨i,j,w⟩|c
   ·rw[<-w,Qr.cZ i j,w];exact y f h u z i (by omega)
   ·rw[Qr.e2 _ c];exact W.on f h z
 ·refine dk.mpr ⟨W.ao,by simp,λf u H l d=>?_⟩;rw[cK]at l;subst d l;exact A _ u n (a5 _) rfl
 ·rcases dG.mp q with q|q
  ·refine⟨?_,(W.last x q).2.1,λH s d=>?_⟩
   ·rcases r x with ⟨a,S,rfl⟩|c
    ·rw[Qr.cZ a S];exact A _ q a (by omega)
    ·rw[Qr.e2 x c];exact (W.last x q).1
   ·rcases r H with ⟨i,j,rfl⟩|l
    ·rw[Qr.cZ i j]at d;exact A x q i (by omega) d
    ·rw[Qr.e2 H l]at d s;exact (W.last x q).2.2 H s d
  ·rw[cK]at q;subst q;refine⟨?_,G,λH s d=>?_⟩
   ·rcases r (v n) with ⟨i,j,w⟩|c
    ·rw[<-w,Qr.cZ i j,w];intro t;exact absurd (Qr.pC i n (by omega) (a5 _) t) (by omega)
    ·rw[Qr.e2 _ c];exact M n (a5 _) J c
   ·rcases r H with ⟨i,j,rfl⟩|l
    ·rw[Qr.cZ i j]at d;exact absurd (Qr.pC i n (by omega) (a5 _) d) (by omega)
    ·rw[Qr.e2 H l]at d s;exact y H s l (by rw[d];exact J) n (a5 _) d.symm
 ·by_cases N:∃a,a<=n/\v a=f
  ·let⟨a,S,rfl⟩:=N;rcases e4 a n with p|p
   ·exfalso;refine bg (m a) ?_ (Qr.cZ a p);rw[Qr.cZ a p];intro t;rw[t,Qr.cZ a p,t]at h;exact h rfl
   ·rw[show a=n by omega];exact dR _ (.head _)
  ·have ao:∀a,a<=n->v a≠f:=λa S d=>N ⟨a,S,d⟩;refine dO _ (W.ends f ?_ λH s d=>?_)
   ·rcases r f with ⟨a,S,rfl⟩|c
    ·exact λt=>ao (a+1) (by omega) ((Qr.ds a S).trans t)
    ·rw[Qr.e2 f c]at h;exact h
   ·rcases r H with ⟨i,j,rfl⟩|l
    ·exact ao (i+1) (by omega) ((Qr.ds i j).trans d)
    ·exact bg H (by rw[Qr.e2 H l];exact s) (by rw[Qr.e2 H l];exact d)
end bI
namespace bI
variable{af:Type}[DecidableEq af]{P:List af}{b:af->af->Prop}{g e:af}{C L:af->af}{D:List af}
def su(C:af->af)(b:af->af->Prop)(q h:af×Bool):Prop:=((q.2=aq/\h=(C q.1,X))\/(q.2=X/\h.2=aq/\(h.1=q.1\/b q.1 h.1)))
structure kn(C:af->af)(b:af->af->Prop)(g:af)(Qz:List ((af×Bool)×Option (af×Bool))):Prop where
 ao:(Qz.map (·.1)).Nodup
 par:∀(a:Nat) (h q:af×Bool),Qz[a]?=Z (h,Z q)->∃i<a,∃p,Qz[i]?=Z (q,p)/\su C b q h
 root:∀(a:Nat) (h:af×Bool),Qz[a]?=Z (h,Y)->h=(g,X)
variable{Qz:List ((af×Bool)×Option (af×Bool))}
structure mH(C:af->af)(b:af->af->Prop)(g:af)(Qz:List ((af×Bool)×Option (af×Bool)))(n:Nat)(m v:Nat->af)(s j:Nat->Nat):Prop where
 jI:v 0=g
 hD:Qz[j 0]?=Z ((g,X),Y)
 ds:∀a<n,v (a+1)=C (m a)
 step:∀a<n,m a=v a\/b (v a) (m a)
 lc:∀a<n,Qz[s a]?=Z ((m a,aq),Z (v a,X))
 ld:∀a<n,Qz[j (a+1)]?=Z ((v<|a+1,X),Z (m a,aq))
 aZ:∀a<n,j a<s a
 bh:∀a<n,s a<j (a+1)
def kn.path(Qq:kn C b g Qz):∀(a:Nat) {f:af}{p:Option (af×Bool)},Qz[a]?=Z ((f,X),p)->∃n m v s j,mH C b g Qz n m v s j/\v n=f/\j n=a:=by
 intro a;induction a using Nat.strongRecOn with
 |ind a y=>
  intro f p c;cases p with
  |none=>
   have d:=Qq.root a _ c;have Rh:f=g:=congrArg Prod.fst d;subst Rh;exact⟨0,λ_=>f,λ_=>f,λ_=>a,λ_=>a,⟨rfl,c,λ_ e=>absurd e (by omega),λ_ e=>absurd e (by omega),λ_ e=>absurd e (by omega),λ_ e=>absurd e (by omega),λ_ e=>absurd e (by omega),λ_ e=>absurd e (by omega)⟩,rfl,rfl⟩
  |some q=>
   let⟨i,z,A,o,d⟩:=Qq.par a _ q c;let⟨H,B⟩:=q;rcases d with ⟨r,u⟩|⟨_,u,_⟩
   ·have r:B=aq:=r;subst r;have Rh:f=C H:=congrArg Prod.fst u;cases A with
    |none=>have:=congrArg Prod.snd (Qq.root i _ o);cases this
    |some w=>
     let⟨D,E,N,F,G⟩:=Qq.par i _ w o;let⟨e,J⟩:=w;rcases G with ⟨_,h⟩|⟨h,_,L⟩
     ·have:=congrArg Prod.snd h;cases this
     ·have h:J=X:=h;subst h;let⟨n,m,v,s,j,Qr,x,M⟩:=y D (by omega) F;refine⟨n+1,λk=>if k<n then m k else H,λk=>if k<=n then v k else f,λk=>if k<n then s k else i,λk=>if k<=n then j k else a,⟨?_,?_,λk l=>?_,λk l=>?_,λk l=>?_,λk l=>?_,λk l=>?_,λk l=>?_⟩,?_,?_⟩
      ·simpa using Qr.jI
      ·simpa using Qr.hD
      ·by_cases t:k<n
       ·simp only[aE t,aE (show k+1<=n by omega)];exact Qr.ds k t
       ·simp only[aK t,aK (show ¬ k+1<=n by omega)];exact Rh
      ·by_cases t:k<n
       ·simp only[aE t,aE (show k<=n by omega)];exact Qr.step k t
       ·simp only[aK t,aE (show k<=n by omega)];rw[show k=n by omega,x];exact L
      ·by_cases t:k<n
       ·simp only[aE t,aE (show k<=n by omega)];exact Qr.lc k t
       ·simp only[aK t,aE (show k<=n by omega)];rw[show k=n by omega,x];exact o
      ·by_cases t:k<n
       ·simp only[aE t,aE (show k+1<=n by omega)];exact Qr.ld k t
       ·simp only[aK t,aK (show ¬ k+1<=n by omega)];exact c
      ·by_cases t:k<n
       ·simp only[aE t,aE (show k<=n by omega)];exact Qr.aZ k t
       ·simp only[aK t,aE (show k<=n by omega)];rw[show k=n by omega,M];exact E
      ·by_cases t:k<n
       ·simp only[aE t,aE (show k+1<=n by omega)];exact Qr.bh k t
       ·simp only[aK t,aK (show ¬ k+1<=n by omega)];exact z
      ·simp only[aK (show ¬ n+1<=n by omega)]
      ·simp only[aK (show ¬ n+1<=n by omega)]
   ·cases u
def kn.l7(Qq:kn C b g Qz){a i:Nat}{h:af×Bool}{p s:Option (af×Bool)}(t:Qz[a]?=Z (h,p))(E:Qz[i]?=Z (h,s)):a=i:=by
 have lt:a<(Qz.map (·.1)).length:=by rw[bj];exact (e9.mp t).1
 exact (List.getElem?_inj lt Qq.ao).mp (by rw[eH,eH,t,E];rfl)
section
variable{n:Nat}{m v:Nat->af}{s j:Nat->Nat}
theorem mH.up(Qr:mH C b g Qz n m v s j){a:Nat}:∀{i:Nat},a<=i->i<=n->j a<=j i
 |0,c,_=>by rw[vQ.mp c];exact a5 _
 |i+1,c,d=>by
  rcases e4 a (i+1) with p|p
  ·have:=Qr.up (a:=a) (i:=i) (by omega) (by omega);have:=Qr.aZ i (by omega);have:=Qr.bh i (by omega);omega
  ·rw[show a=i+1 by omega];exact a5 _
def mH.yk(Qr:mH C b g Qz n m v s j){a:Nat}(S:a<=n):∃p,Qz[j a]?=Z ((v a,X),p):=by
 cases a with
 |zero=>exact⟨Y,by rw[Qr.jI];exact Qr.hD⟩
 |succ a=>exact⟨_,Qr.ld a (by omega)⟩
def kn.bL(Qq:kn C b g Qz)(Qr:mH C b g Qz n m v s j)(B:∀a<n,m a≠e)(cZ:∀a<n,L (m a)=v a)(e2:∀f,(∀a<n,m a≠f)->L f=C f):pa P b g e C L n m v:=by
 refine⟨Qr.jI,Qr.ds,Qr.step,λa i S c d=>?_,λa i S c d=>?_,B,cZ,e2⟩
 ·have t:=Qr.lc a S;rw[d]at t;have:=Qq.l7 t (Qr.lc i c);rcases mu a i with p|p|p
  ·have:=Qr.up (a:=a+1) (i:=i) (by omega) (by omega);have:=Qr.bh a S;have:=Qr.aZ i c;omega
  ·exact p
  ·have:=Qr.up (a:=i+1) (i:=a) (by omega) (by omega);have:=Qr.bh i c;have:=Qr.aZ a S;omega
 ·let⟨W,t⟩:=Qr.yk S;let⟨W,E⟩:=Qr.yk c;rw[d]at t;have:=Qq.l7 t E;rcases mu a i with p|p|p
  ·have:=Qr.up (a:=a+1) (i:=i) (by omega) (by omega);have:=Qr.bh a (by omega);have:=Qr.aZ a (by omega);omega
  ·exact p
  ·have:=Qr.up (a:=i+1) (i:=a) (by omega) (by omega);have:=Qr.bh i (by omega);have:=Qr.aZ i (by omega);omega
end
end bI
namespace bI
variable{af:Type}[DecidableEq af]{P:List af}{b:af->af->Prop}{g e:af}{C L:af->af}{D:List af}
def c7(C:af->af)(x:af)(r:Nat):List af:=((range<|r+1).map λa=>it C a x)
def kA(C:af->af)(g x:af)(r:Nat):Prop:=(it C (r+1) x=g/\∀n,n<=r->C (it C n x)≠it C n x)
def dm.nb(W:dm P b g e C D){m:af}(c:C m≠m):m≠e:=λd=>c (d ▸ W.vY)
def pT{x f:af}{r:Nat}:f∈c7 C x r↔∃a,a<=r/\it C a x=f:=by
 unfold c7;rw[cO];exact⟨λ⟨a,S,d⟩=>⟨a,by rw[e0]at S;omega,d⟩,λ⟨a,S,d⟩=>⟨a,e0.mpr (by omega),d⟩⟩
def dm.GG(W:dm P b g e C D){x:af}(a:x∈D){r:Nat}(c:kA C g x r):(c7 C x r).Nodup:=by
 unfold c7;rw[mS,lG];exact xg.imp_of_mem λ{f H} h d p=>W.dist a p λn i=>c.2 n (by rw[e0]at d;omega)
def dm.Cp(W:dm P b g e C D){x f:af}{r:Nat}(c:kA C g x r)(d:f∈c7 C x r):f∈P/\f≠g/\f≠e:=by
 let⟨a,S,rfl⟩:=pT.mp d;have k:=c.2 a S;exact⟨(W.fi _ k).1,W.ne k,W.nb k⟩
def dm.apart(W:dm P b g e C D){x k f:af}(c:x∈D)(d:k∈D){a i:Nat}(t:kA C g x a)(E:kA C g k i)(h:f∈c7 C x a)(j:f∈c7 C k i):x=k:=by
 let⟨q,r,l⟩:=pT.mp h;let⟨p,s,m⟩:=pT.mp j;exact W.inj c d (λn o=>t.2 n (by omega)) (λn o=>E.2 n (by omega)) (l.trans m.symm)
def dm.Gb(W:dm P b g e C D){r:af->Nat}(c:∀x∈D,kA C g x<|r x):(D.flatMap λx=>c7 C x<|r x).Nodup:=by
 have M:∀h:List af,h.Nodup->(∀x∈h,x∈D)->(h.flatMap λx=>c7 C x<|r x).Nodup:=λh=>by
  induction h with
  |nil=>intro U U;exact gY
  |cons k h j=>
   intro ao sub;rw[ic]at ao;rw[pL];refine dk.mpr ⟨W.GG (sub k<|.head _)<|c k<|sub k<|.head _,j ao.2 λx a=>sub x<|.tail _ a,λf l H i d=>?_⟩;subst d;let⟨x,a,i⟩:=yT.mp i;exact ao.1 (W.apart (sub k<|.head _) (sub x<|.tail _ a) (c k<|sub k<|.head _) (c x<|sub x<|.tail _ a) l i ▸ a)
 exact M D W.ao λx a=>a
def dm.steps(W:dm P b g e C D){x:af}{r:Nat}(c:kA C g x r){a:Nat}(S:a<=r):b (it C (a+1) x) (it C a x):=by
 rw[il];exact (W.fi _<|c.2 a S).2.2
def dm.dc(W:dm P b g e C D){bs:List af}(c:∀f,b f e->f∈bs):D.length<=bs.length:=by
 have:=W.ao.length_le_of_subset (l₂:=bs) λf a=>c f (W.last f a).2.1;exact this
def dm.nil:dm P b g e id []:=⟨rfl,rfl,λm c=>absurd rfl c,λm v c=>absurd rfl c,λm c=>absurd rfl c,gY,(λx a=>absurd a kq),λm c=>absurd rfl c⟩
def Rs.of{QI:af->Bool->Prop}(f:QI g X)(a:∀h A,QI h.1 h.2->su C b h A->QI A.1 A.2)(B:¬ QI e aq):Rs P b g e C QI:=
 ⟨f,λm c=>a (m,aq) (C m,X) c<|.inl ⟨rfl,rfl⟩,λm c=>a (m,X) (m,aq) c<|.inr ⟨rfl,rfl,.inl rfl⟩,λm v c d=>a (m,X) (v,aq) c<|.inr ⟨rfl,rfl,.inr d⟩,B⟩
end bI
namespace G
open L2
variable{U:Option ai}{R D ab:List aN}{e x g H f m:aN}{QT:Type}{r a:Nat}{y:a6}{C:aN->aN}
abbrev cG:=aN×Bool
variable{QM QO W:List cG}{l A h:cG}
def ua:Bool->V
 |false=>.str "in"
 |true=>.str "out"
def gL(h:cG):List V:=([aa h.1,ua h.2])
def bB(h:cG):V:=(.tup (gL h))
def Bz(c:gL h=gL A):h=A:=by
 let⟨m,o⟩:=h;let⟨v,q⟩:=A;unfold gL at c;simp only[Ih,and_true]at c;rw[EC];refine⟨zk c.1,?_⟩;cases o<;>cases q
 ·rfl
 ·exact absurd c.2 ∅
 ·exact absurd c.2 ∅
 ·rfl
def vu(h:cG):V.keys 7 (gL h)=X:=by let⟨m,o⟩:=h;cases o<;>rfl
def bw(ab:List aN)(C:aN->aN):List (List V×V):=(ab.map λm=>(c3 m,aa<|C m))
def v8(c:m∈ab):dC (bw ab C) (c3 m)=Z (aa<|C m):=by
 induction ab with
 |nil=>cases c
 |cons f s b=>
  unfold dC bw;rw[cH,jC];by_cases d:f=m
  ·subst d;simp
  ·have:decide (c3 f=c3 m)=aq:=c0 λa=>d (lu a);rw[this];exact b ((cu.mp c).resolve_left λa=>d a.symm)
def BI(ab:List aN)(C:aN->aN)(m:aN):(dC (bw ab C)<|c3 m).isSome=decide (m∈ab):=by
 by_cases c:m∈ab
 ·rw[v8 c,dd c];rfl
 ·rw[c0 c,rx,Bool.eq_false_iff];intro a;let⟨q,b,d⟩:=qa.mp a;let⟨f,e,rfl⟩:=cO.mp b;exact c (lu (hY d) ▸ e)
def j7(C:aN->aN)(f H:aN):aN->aN:=(λa=>if a=f then H else C a)
def IV(c:f∈ab):fW (bw ab C) (c3 f) (aa H)=bw ab (j7 C f H):=by
 unfold fW;have:=BI ab C f;rw[rx,dd c]at this;rw[aE this];unfold bw;rw[gz];refine nP λm W=>?_;show (if c3 m=c3 f then (c3 m,aa H) else (c3 m,aa<|C m))=(c3 m,aa<|j7 C f H m);unfold j7;by_cases d:m=f
 ·rw[aE (by rw[d]),aE d]
 ·rw[aK λa=>d<|lu a,aK d]
abbrev fL:=List (cG×Option cG)
variable{Qz:fL}
def rz:Option cG->V
 |none=>.aT
 |some h=>bB h
def cv(Qz:fL):List (List V×V):=(Qz.map λq=>(gL q.1,rz q.2))
abbrev cA(Qz:fL):List cG:=Qz.map (·.1)
def NT(ao:(cA Qz).Nodup){h:cG}{p:Option cG}(c:(h,p)∈Qz):dC (cv Qz) (gL h)=Z (rz p):=by
 induction Qz with
 |nil=>cases c
 |cons f s b=>
  unfold dC cv;rw[cH,jC];replace ao:=ic.mp (show (f.1::cA s).Nodup from ao);by_cases d:f.1=h
  ·have:f=(h,p):=by
    rcases cu.mp c with c|c
    ·exact c.symm
    ·exact absurd (cO.mpr ⟨_,c,rfl⟩) (d ▸ ao.1)
   subst this;simp
  ·have:decide (gL f.1=gL h)=aq:=c0 λa=>d (Bz a);rw[this];exact b ao.2 ((cu.mp c).resolve_left λa=>d (by rw[<-a]))
def Fx(Qz:fL)(h:cG):((cv Qz).any λq=>decide (q.1=gL h))=decide (h∈cA Qz):=by
 rw[p0,qa,j1,cO];constructor
 ·rintro⟨q,b,d⟩;let⟨f,a,rfl⟩:=cO.mp b;exact⟨f,a,Bz<|hY d⟩
 ·rintro⟨f,a,rfl⟩;exact⟨_,cO.mpr ⟨f,a,rfl⟩,dd rfl⟩
def GN(Qz:fL)(h:cG):(dC (cv Qz)<|gL h).isSome=decide (h∈cA Qz):=by rw[rx,Fx]
def IY{p:Option cG}(c:h∉cA Qz):fW (cv Qz) (gL h) (rz p)=cv (Qz++[(h,p)]):=by
 unfold fW;rw[aK (by rw[Fx,c0 c];exact dv)];unfold cv;rw[fb];rfl
def u9(Qz:fL)(h:cG):eU (bB h) (.aH<|cv Qz)=Z (decide (h∈cA Qz)):=by
 unfold bB;rw[EK,aE<|vu h,GN]
def KI(ab:List aN)(C:aN->aN)(m:aN):eU (aa m) (.aH<|bw ab C)=Z (decide (m∈ab)):=by
 show eU (.tup<|c3 m) _=_;rw[EK,aE<|lA m,BI]
def L4(m:aN):o2 [.im (aa m)]=Z (aP<|c2 m,[.im (aa m)]):=rfl
def hQ(ab:List aN)(C:aN->aN)(h:cG):List cG:=(if h.2 then (h.1,aq)::((c2 h.1).filter λv=>decide (v∈ab)).map λv=>(v,aq) else [(C h.1,X)])
def Hc(m:aN):(c2 m).length=4:=rfl
def He(Qx:h.1∈ab):n1 [.aH (bw ab C),.im<|bB h]=Z (.lst<|(hQ ab C h).map bB,[.aH (bw ab C),.im<|bB h]):=by
 let⟨m,o⟩:=h;have a:bD (.aH<|bw ab C) (.im<|aa m)=Z (.im<|aa<|C m):=by
  show (if V.keys 7 (c3 m)=X then (dC (bw ab C)<|c3 m).map ai.im else Y)=_;rw[aE (lA m),v8 Qx];rfl
 cases o with
 |false=>
  unfold n1 uN;refine gV (y:=[Z (.aH<|bw ab C),Z<|.im<|bB (m,aq),Z<|.im<|aa m]) rfl (cp (QA:=[Z (.aH<|bw ab C),Z<|.im<|bB (m,aq),Z<|.im<|aa m]) rfl ?_) rfl;refine yD ?_;refine m6 (QA:=[Z (.aH<|bw ab C),Z<|.im<|bB (m,aq),Z<|.im<|aa m]) rfl (i3<|Lf (cj (bE<|sy (cj (bE<|eZ a) rfl) rfl (nc rfl) rfl) rfl) rfl (nc rfl) rfl)
 |true=>
  unfold n1 uN;refine gV (y:=[Z (.aH<|bw ab C),Z<|.im<|bB (m,X),Z<|.im<|aa m]) rfl (cp (QA:=[Z (.aH<|bw ab C),Z<|.im<|bB (m,X),Z<|.im<|aa m]) rfl<|cp (QA:=[Z (.aH<|bw ab C),Z<|.im<|bB (m,X),Z<|.im<|aa m]) rfl<|i3 ?_) rfl;have ei:cR 1 [0] (cN<|ag<|bT 1 G.o2<|ar (aj 2) aF) (bH 0) G.yN G.Fe [Z (.aH<|bw ab C),Z<|.im<|bB (m,X),Z<|.im<|aa m]=Z (.lst<|((c2 m).filter λv=>decide (v∈ab)).map λv=>bB (v,aq),[Z (.aH<|bw ab C),Z<|.im<|bB (m,X),Z<|.im<|aa m]):=by
   refine ju (w:=(c2 m).map aa) (o:=Y) (QA:=[Z (.aH<|bw ab C),Z<|.im<|bB (m,X),Z<|.im<|aa m]) rfl (lC aa (λv=>decide (v∈ab)) (λv=>bB (v,aq)) _ [] (λv W=>?_) (by rw[Hc];decide)) rfl;refine⟨[Z (.im<|aa v),Z<|.aH<|bw ab C],[Z (.im<|aa v),Z<|.aH<|bw ab C],rfl,dw<|eZ ?_,λ_=>rfl,λ_=>⟨[Z (.im<|aa v),Z<|.aH<|bw ab C],rfl,rfl⟩⟩;show (eU (aa v)<|.aH<|bw ab C).map (λs=>ai.im<|.ax s)=_;rw[KI];rfl
  refine de (bE rfl) (bE ei) rfl rfl ?_;have b:(((c2 m).filter λv=>decide (v∈ab)).map λv=>bB (v,aq)).length<=4:=by
   rw[bj];exact t5 _ _
  show (if [bB (m,aq)].length+_<=100000 then Z (ai.lst<|[bB (m,aq)]++_) else Y)=_;rw[aE (by rw[fk];lia)];unfold hQ;rw[aE rfl,cH,gz];rfl
def EF{L:ay ai}{QA:a6}{m b v:ai}{n:V}(d:L y=Z (.im n,y))(c:y[a]?=Z (Z m))(e:jy m (.im n) v=Z b)(f:y.set a (Z b)=QA):kb a L jy v y=Z QA:=by
 unfold kb;rw[c];show (L y).bind _=_;rw[d];show (match y[a]? with|some (Z m)=>(jy m (.im n) v).map λb=>y.set a (Z b)|_=>Y)=_;rw[c];show (jy m (.im n) v).map _=_;rw[e,<-f];rfl
def i2(ab:List aN)(f H:aN):Prop:=(f∈ab/\H∈ab/\H∈c2 f)
structure gd(ab:List aN)(C:aN->aN)(g:aN)(Qz:fL)(W QO:List cG)(l:cG)(QM:List cG):Prop where
 f6:bI.kn C (i2 ab) g Qz
 hD:Qz[0]?=Z ((g,X),Y)
 inf:∀h∈cA Qz,h.1∈ab
 gM:∀h∈W,h∈cA Qz
 eL:∀h∈QO,h∈cA Qz
 cl:∀h∈cA Qz,h∉W->h∉QO->∀A∈hQ ab C h,A∈cA Qz\/(h=l/\A∈QM)
def AJ(Qx:h.1∈ab)(c:A∈hQ ab C h):bI.su C (i2 ab) h A:=by
 let⟨m,o⟩:=h;cases o with
 |false=>exact .inl ⟨rfl,cK.mp c⟩
 |true=>
  rcases cu.mp c with rfl|c
  ·exact .inr ⟨rfl,rfl,.inl rfl⟩
  ·let⟨v,a,rfl⟩:=cO.mp c;let⟨t,E⟩:=hS.mp a;exact .inr ⟨rfl,rfl,.inr ⟨Qx,hY E,t⟩⟩
def Mc(c:bI.su C (i2 ab) h A):A∈hQ ab C h:=by
 let⟨m,o⟩:=h;rcases c with ⟨t,E⟩|⟨t,E,a⟩
 ·cases t;rw[E];exact .head _
 ·cases t;let⟨v,q⟩:=A;cases E;rcases a with a|⟨_,b,d⟩
  ·cases a;exact .head _
  ·exact .tail _ (cO.mpr ⟨v,hS.mpr ⟨d,dd b⟩,rfl⟩)
def GP(a:∀m∈ab,C m∈ab){h A:cG}(Qx:h.1∈ab)(c:A∈hQ ab C h):A.1∈ab:=by
 rcases AJ Qx c with ⟨_,d⟩|⟨_,_,d|d⟩
 ·rw[d];exact a _ Qx
 ·rw[d];exact Qx
 ·exact d.2.1
def gd.len(QI:gd ab C g Qz W QO l QM):Qz.length<=2*ab.length:=by
 have:=QI.f6.ao.length_le_of_subset (l₂:=(ab.map λm=>(m,aq))++ab.map λm=>(m,X)) λh Qx=>by
  have c:=QI.inf h Qx;let⟨m,o⟩:=h;cases o with
  |false=>exact dO _ (cO.mpr ⟨m,c,rfl⟩)
  |true=>exact dR _ (cO.mpr ⟨m,c,rfl⟩)
 rw[dx,bj,bj,bj]at this;lia
def gd.skip(QI:gd ab C g Qz W QO l (A::QM))(c:A∈cA Qz):gd ab C g Qz W QO l QM:=
 ⟨QI.f6,QI.hD,QI.inf,QI.gM,QI.eL,λh Qx t E J d=>by
  rcases QI.cl h Qx t E J d with a|⟨a,b⟩
  ·exact .inl a
  ·rcases cu.mp b with rfl|b
   ·exact .inl c
   ·exact .inr ⟨a,b⟩⟩
def gd.put(s:∀m∈ab,C m∈ab){g:aN}{Qz:fL}{W QO:List cG}{l A:cG}{QM:List cG}(QI:gd ab C g Qz W QO l (A::QM))(n:l∈cA Qz)(bf:A∈hQ ab C l)(c:A∉cA Qz):gd ab C g (Qz++[(A,Z l)]) W (QO++[A]) l QM:=by
 have b:cA (Qz++[(A,Z l)])=cA Qz++[A]:=by unfold cA;rw[fb];rfl
 have o:=QI.inf l n;refine⟨⟨?_,λa h q d=>?_,λa h d=>?_⟩,?_,λh Qx=>?_,λh Qx=>?_,λh Qx=>?_,λh Qx t E J u=>?_⟩
 ·show (cA<|Qz++[(A,Z l)]).Nodup;rw[b];exact dk.mpr ⟨QI.f6.ao,eY _ _,λf j H v d=>c (by rw[cK.mp v]at d;rw[<-d];exact j)⟩
 ·rcases e4 a Qz.length with S|S
  ·rw[iA S]at d;let⟨i,e,p,w,x⟩:=QI.f6.par a h q d;exact⟨i,e,p,by rw[iA ⋯];exact w,x⟩
  ·have y:a=Qz.length:=by
    have:=(e9.mp d).1;rw[dx,fk]at this;lia
   subst y;rw[jw (a5 _),ur]at d;cases d;let⟨f,j,d⟩:=cO.mp n;let⟨i,e,B⟩:=kL.mp j;refine⟨i,e,f.2,?_,AJ o bf⟩;rw[iA e,eb e,B,<-d]
 ·rcases e4 a Qz.length with S|S
  ·rw[iA S]at d;exact QI.f6.root a h d
  ·rw[jw S]at d;rcases vd (a-Qz.length) with z|z
   ·rw[z]at d;cases d
   ·obtain⟨r,D⟩:∃r,a-Qz.length=r+1:=⟨a-Qz.length-1,⋯⟩;rw[D]at d;cases d
 ·have:0<Qz.length:=(e9.mp QI.hD).1;rw[iA this];exact QI.hD
 ·rw[b]at Qx;rcases dG.mp Qx with Qx|Qx
  ·exact QI.inf h Qx
  ·rw[cK.mp Qx];exact GP s o bf
 ·rw[b];exact dO _ (QI.gM h Qx)
 ·rw[b];rcases dG.mp Qx with Qx|Qx
  ·exact dO _ (QI.eL h Qx)
  ·exact dR _ Qx
 ·rw[b]at Qx ⊢;have F:h∈cA Qz:=(dG.mp Qx).resolve_right λz=>E (dR _ z);rcases QI.cl h F t (λz=>E<|dO _ z) J u with z|⟨z,k⟩
  ·exact .inl (dO _ z)
  ·rcases cu.mp k with rfl|k
   ·exact .inl (dR _<|.head _)
   ·exact .inr ⟨z,k⟩
abbrev gF(ab:List aN)(C:aN->aN)(g:aN)(Qz:fL)(Q7:Option ai)(QO:List cG)(I P:Option ai):a6:=[Z (.aH<|bw ab C),Z<|.im<|aa g,Z<|.im<|bB (g,X),Z<|.aH<|cv Qz,Q7,Z<|.lst<|QO.map bB,I,P]
def GD(q:ab.length<=1000)(f:∀m∈ab,C m∈ab){g:aN}{Qz:fL}{W QO:List cG}{l A:cG}{QM:List cG}{Q7:Option ai}(QI:gd ab C g Qz W QO l (A::QM))(i:l∈cA Qz)(bf:A∈hQ ab C l)(r:QO.length<=Qz.length):
  ∃a e,qf (gF ab C g Qz Q7 QO (Z<|.im<|bB l)<|Z<|.im<|bB A)=Z (.bg,gF ab C g a Q7 e (Z<|.im<|bB l)<|Z<|.im<|bB A)/\gd ab C g a W e l QM/\(∀h∈cA Qz,h∈cA a)/\a.length+QO.length=Qz.length+e.length:=by
 have t:=QI.len;have b:fE (.im<|bB A) (.aH<|cv Qz)=Z (.im<|.ax<|!decide (A∈cA Qz)):=by
  show (eU (bB A)<|.aH<|cv Qz).map (λs=>ai.im<|.ax<|!s)=_;rw[u9];rfl
 by_cases c:A∈cA Qz
 ·rw[dd c]at b;exact⟨Qz,QO,fj (dw<|eZ b) rfl,QI.skip c,λh Qx=>Qx,rfl⟩
 ·rw[c0 c]at b;refine⟨Qz++[(A,Z l)],QO++[A],?_,QI.put f i bf c,λh Qx=>?_,by rw[dx,dx,fk,fk];lia⟩
  ·unfold qf;refine m6 (dw<|eZ b) (cp (QA:=gF ab C g (Qz++[(A,Z l)]) Q7 QO (Z<|.im<|bB l) (Z<|.im<|bB A)) (za (v:=.im (bB l)) (QA:=gF ab C g Qz Q7 QO (Z<|.im<|bB l) (Z<|.im<|bB A)) rfl ?_) (sP (yy (m:=.lst (QO.map bB)) rfl rfl (cj rfl rfl) rfl rfl (u0 (by rw[bj];lia)) ?_)))
   ·have d:=IY (p:=Z l) c;have j:=vu A;have k:(cv Qz).length<100000:=by unfold cv;rw[bj];lia
    have n:jy (.aH<|cv Qz) (.im<|bB A) (.im<|bB l)=Z (.aH<|cv<|Qz++[(A,Z l)]):=by
     show (if V.keys 7 (gL A)=X/\(cv Qz).length<100000 then Z (ai.aH<|fW (cv Qz) (gL A)<|bB l) else Y)=_;rw[aE ⟨j,k⟩];exact congrArg (λo=>Z<|ai.aH o) d
    exact EF rfl rfl n rfl
   ·show _=[Z (.aH<|bw ab C),Z<|.im<|aa g,Z<|.im<|bB (g,X),Z<|.aH<|cv<|Qz++[(A,Z l)],Q7,Z<|.lst<|(QO++[A]).map bB,Z<|.im<|bB l,Z<|.im<|bB A];rw[fb];rfl
  ·show h∈cA (Qz++[(A,Z l)]);unfold cA;rw[fb];exact dO _ Qx
theorem AP{ab:List aN}{C:aN->aN}(c:ab.length<=1000)(d:∀m∈ab,C m∈ab){g:aN}{W:List cG}{l:cG}{Q7:Option ai}:∀(QM:List cG) {Qz:fL}{QO:List cG} (P:Option ai),gd ab C g Qz W QO l QM->l∈cA Qz->(∀A∈QM,A∈hQ ab C l)->QO.length<=Qz.length->
  ∃a b f,d5 (bH 7) qf (QM.map bB) (gF ab C g Qz Q7 QO (Z<|.im<|bB l) P)=Z (.bg,gF ab C g a Q7 b (Z<|.im<|bB l) f)/\gd ab C g a W b l []/\(∀h∈cA Qz,h∈cA a)/\a.length+QO.length=Qz.length+b.length
 |[],Qz,QO,P,QI,_,_,_=>⟨Qz,QO,P,rfl,QI,λh Qx=>Qx,rfl⟩
 |A::QM,Qz,QO,P,QI,e,bf,i=>by
  let⟨r,s,j,k,Q0,aZ⟩:=GD (Q7:=Q7) c d QI e (bf A<|.head _) i;let⟨L2,n,Rd,o,p,Q6,bh⟩:=AP c d QM (Z<|.im<|bB A) k (Q0 l e) (λJ q=>bf J<|.tail _ q) ⋯;refine⟨L2,n,Rd,?_,p,λh Qx=>Q6 h<|Q0 h Qx,⋯⟩;rw[cH,d5];show (qf<|gF ab C g Qz Q7 QO (Z<|.im<|bB l)<|Z<|.im<|bB A).bind _=_;rw[j];exact o
theorem yI{ab:List aN}{C:aN->aN}(f:ab.length<=1000)(i:∀m∈ab,C m∈ab){g:aN}{Q7:Option ai}:∀(W:List cG) {Qz:fL}{QO:List cG}{b:cG} (I P:Option ai),gd ab C g Qz W QO b []->QO.length<=Qz.length->
  ∃c e n p q,d5 (bH 6) q5 (W.map bB) (gF ab C g Qz Q7 QO I P)=Z (.bg,gF ab C g c Q7 e p q)/\gd ab C g c [] e n []/\c.length+QO.length=Qz.length+e.length
 |[],Qz,QO,b,I,P,QI,_=>⟨Qz,QO,b,I,P,rfl,QI,rfl⟩
 |l::W,Qz,QO,b,I,P,QI,r=>by
  have j:=QI.gM l (.head _);have s:gd ab C g Qz W QO l (hQ ab C l):=⟨QI.f6,QI.hD,QI.inf,λh Qx=>QI.gM h<|.tail _ Qx,QI.eL,λh Qx t E J k=>by
   by_cases d:h=l
   ·subst d;exact .inr ⟨rfl,k⟩
   ·rcases QI.cl h Qx (λa=>(cu.mp a).elim d t) E J k with a|⟨_,a⟩
    ·exact .inl a
    ·cases a⟩
  let⟨u,v,Q5,x,y,Q0,aZ⟩:=AP (Q7:=Q7) f i (hQ ab C l) P s j (λA bf=>bf) r;let⟨L2,z,B,D,F,H,L,bh⟩:=yI f i W (Z<|.im<|bB l) Q5 y ⋯;refine⟨L2,z,B,D,F,?_,L,⋯⟩;rw[cH,d5];show (q5<|gF ab C g Qz Q7 QO (Z<|.im<|bB l) P).bind _=_;have N:q5 (gF ab C g Qz Q7 QO (Z<|.im<|bB l) P)=Z (.bg,gF ab C g u Q7 v (Z<|.im<|bB l) Q5):=by
   unfold q5;refine mO (o:=Y) (w:=(hQ ab C l).map bB) (QA:=gF ab C g Qz Q7 QO (Z<|.im<|bB l) P) ?_ x rfl;have on:=He (C:=C) (QI.inf l j);have O:bT 2 G.n1 (ar (aj 0)<|ar (aj 6) aF) (gF ab C g Qz Q7 QO (Z<|.im<|bB l) P)=Z (.lst<|(hQ ab C l).map bB,gF ab C g Qz Q7 QO (Z<|.im<|bB l) P):=es (M:=[.aU 0,.aU 6]) rfl rfl rfl on rfl;unfold cN;rw[qk O];rfl
  rw[N];exact H
structure vA(ab:List aN)(C:aN->aN)(g:aN)(Qz:fL):Prop where
 f6:bI.kn C (i2 ab) g Qz
 hD:Qz[0]?=Z ((g,X),Y)
 inf:∀h∈cA Qz,h.1∈ab
 cl:∀h∈cA Qz,∀A∈hQ ab C h,A∈cA Qz
def DI(p:ab.length<=1000)(r:∀m∈ab,C m∈ab){g:aN}(s:g∈ab):∃Qz,pH [.aH (bw ab C),.im<|aa g]=Z (.aH<|cv Qz,[.aH (bw ab C),.im<|aa g])/\vA ab C g Qz:=by
 have v:bI.kn C (i2 ab) g [((g,X),Y)]:=by
  refine⟨eY _ _,λa h q d=>?_,λa h d=>?_⟩
  ·cases a with
   |zero=>cases d
   |succ a=>cases d
  ·cases a with
   |zero=>cases d;rfl
   |succ a=>cases d
 have w:gd ab C g [((g,X),Y)] [(g,X)] [] (g,X) []:=⟨v,rfl,λh Qx=>by rw[cK.mp Qx];exact s,λh Qx=>Qx,(λh Qx=>nomatch Qx),λh Qx t=>absurd Qx t⟩;let⟨QQ,x,⟨Qz,l,L,I,P,rfl,QI⟩⟩:=o9 (m:=Af) (e:=vM) (λk y=>∃Qz W l L I P,y=[Z (.aH<|bw ab C),Z<|.im<|aa g,Z<|.im<|bB (g,X),Z<|.aH<|cv Qz,Z<|.lst<|W.map bB,L,I,P]/\gd ab C g Qz W [] l []/\2*(2*ab.length-Qz.length)+W.length<=k) (λy=>∃Qz l L I P,y=[Z (.aH<|bw ab C),Z<|.im<|aa g,Z<|.im<|bB (g,X),Z<|.aH<|cv Qz,Z<|.lst [],L,I,P]/\gd ab C g Qz [] [] l [])
  (λk y z=>by
   let⟨Qz,W,l,L,I,P,rfl,QI,B⟩:=z;cases W with
   |nil=>exact⟨aq,_,rfl,(λb=>by cases b),λ_=>⟨Qz,l,L,I,P,rfl,QI⟩⟩
   |cons u W=>
    refine⟨X,_,rfl,λ_=>?_,(λb=>by cases b)⟩;let⟨f,i,D,j,n,E,c,aZ⟩:=yI (Q7:=Z .dS) p r (u::W) I P QI (fo _);have le:=c.len;rw[jg]at aZ;rw[ey]at B;refine⟨.bg,[Z (.aH<|bw ab C),Z<|.im<|aa g,Z<|.im<|bB (g,X),Z<|.aH<|cv f,Z<|.lst<|i.map bB,Z .dS,j,n],?_,.inl rfl,2*(2*ab.length-f.length)+i.length,⋯,f,i,D,Z .dS,j,n,rfl,⟨c.f6,c.hD,c.inf,c.eL,(λh Qx=>nomatch Qx),λh Qx t U=>c.cl h Qx (λb=>nomatch b) t⟩,a5 _⟩;unfold vM;refine cp (QA:=gF ab C g Qz (Z<|.lst<|(u::W).map bB) [] I P) rfl (cp (mO (o:=Z (4,.lst<|(u::W).map bB)) (QA:=gF ab C g Qz (Z .dS) [] I P) rfl E rfl) rfl)) 1000000 _ [Z (.aH<|bw ab C),Z<|.im<|aa g,Z<|.im<|bB (g,X),Z<|.aH<|cv [((g,X),Y)],Z<|.lst<|[(g,X)].map bB,Y,Y,Y] ⟨_,_,_,Y,Y,Y,rfl,w,a5 _⟩ (by rw[fk,fk];lia)
 refine⟨Qz,?_,QI.f6,QI.hD,QI.inf,λh Qx A bf=>?_⟩
 ·unfold pH C5;exact gV (y:=[Z (.aH<|bw ab C),Z<|.im<|aa g,Z<|.im<|bB (g,X),Z .dS,Z<|.lst [],L,I,P]) rfl (cp (QA:=[Z (.aH<|bw ab C),Z<|.im<|aa g,Z<|.im<|bB (g,X),Y,Y,Y,Y,Y]) rfl<|cp (QA:=[Z (.aH<|bw ab C),Z<|.im<|aa g,Z<|.im<|bB (g,X),Z<|.aH<|cv [((g,X),Y)],Y,Y,Y,Y]) rfl<|cp (QA:=[Z (.aH<|bw ab C),Z<|.im<|aa g,Z<|.im<|bB (g,X),Z<|.aH<|cv [((g,X),Y)],Z<|.lst<|[(g,X)].map bB,Y,Y,Y]) rfl<|cp x rfl) rfl
 ·rcases QI.cl h Qx (λb=>nomatch b) (λb=>nomatch b) A bf with b|⟨_,b⟩
  ·exact b
  ·cases b
def Km{k:Nat}{QX:List Nat}{L:bP}{I G:List ai}(a:I.length=r)(d:L (I.map Z++List.replicate (k-r) Y)=Z (.bg,y))(b:h4 QX I y 0=G):d1 r k QX L I=Z (.im .aT,G):=by
 unfold d1;rw[aE a,d,<-b]
def tC(ao:(cA Qz).Nodup){h:cG}{p:Option cG}(c:(h,p)∈Qz):bD (.aH<|cv Qz) (.im<|bB h)=Z (.im<|rz p):=by
 show (if V.keys 7 (gL h)=X then (dC (cv Qz)<|gL h).map ai.im else Y)=_;rw[aE (vu h),NT ao c];rfl
def HC(c:m∈ab):bD (.aH<|bw ab C) (.im<|aa m)=Z (.im<|aa<|C m):=by
 show (if V.keys 7 (c3 m)=X then (dC (bw ab C)<|c3 m).map ai.im else Y)=_;rw[aE (lA m),v8 c];rfl
def nY(f H:aN):eB (.im<|aa f) (.im<|aa H)=Z (.im<|.ax<|!decide (f=H)):=by
 show (if (V.bo 8 (aa f)&&V.bo 8 (aa H))=X then Z (ai.im<|.ax<|!cf (aa f) (aa H)) else Y)=_;rw[nC,nC,aE<|show (X&&X)=X from rfl,qd]
def Of(f H:aN):d7 (.im<|aa f) (.im<|aa H)=Z (.im<|.ax<|decide (f=H)):=by
 show (if (V.bo 8 (aa f)&&V.bo 8 (aa H))=X then Z (ai.im<|.ax<|cf (aa f)<|aa H) else Y)=_;rw[nC,nC,aE<|show (X&&X)=X from rfl,qd]
def Cn(c:i2 ab f H):i2 ab H f:=by
 refine⟨c.2.1,c.1,?_⟩;have:=c.2.2;let⟨g,e⟩:=f;let⟨m,v⟩:=H;unfold c2 at this ⊢;simp only[cu,kq,kJ,EC]at this ⊢;lia
def xh{n:Nat}{m v:Nat->aN}{s j:Nat->Nat}(M:ab.length<=1000)(F:∀f∈ab,C f∈ab)(QI:vA ab C g Qz)(Qr:bI.mH C (i2 ab) g Qz n m v s j)(G:v n=x):
  ∃L:aN->aN,qZ [.aH (bw ab C),.aH<|cv Qz,.im<|aa x]=Z (.im .aT,[.aH (bw ab L),.aH<|cv Qz,.im<|aa x])/\(∀f∈ab,L f∈ab)/\(∀a<n,L (m a)=v a)/\∀f,(∀a<n,m a≠f)->L f=C f:=by
 have ao:=QI.f6.ao;have A:∀a i,a<n->i<n->m a=m i->a=i:=λa i S c d=>by
  have t:=Qr.lc a S;rw[d]at t;have:=QI.f6.l7 t (Qr.lc i c);rcases mu a i with p|p|p
  ·have:=Qr.up (a:=a+1) (i:=i) ⋯ ⋯;have:=Qr.bh a S;have:=Qr.aZ i c;lia
  ·exact p
  ·have:=Qr.up (a:=i+1) (i:=a) ⋯ ⋯;have:=Qr.bh i c;have:=Qr.aZ a S;lia
 have o:∀{a:Nat}{h:cG}{p:Option cG},Qz[a]?=Z (h,p)->(h,p)∈Qz:=λd=>fe d;have B:∀a<n,m a∈ab:=λa S=>QI.inf _ (cO.mpr ⟨_,o<|Qr.lc a S,rfl⟩);have H:∀a,a<=n->v a∈ab:=λa S=>by
  let⟨p,d⟩:=Qr.yk S;exact QI.inf _ (cO.mpr ⟨_,o d,rfl⟩)
 let⟨QQ,D,⟨L,U,rfl,q,u,w⟩⟩:=o9 (m:=FG) (e:=t6) (λk y=>∃(L:aN->aN) (h:cG),y=[Z (.aH<|bw ab L),Z<|.aH<|cv Qz,Z<|.im<|aa x,Z<|.im<|bB h]/\(∀f∈ab,L f∈ab)/\∃i,(∀a,i<=a->a<n->L (m a)=v a)/\(∀f,(∀a,i<=a->a<n->m a≠f)->L f=C f)/\((i<=n/\k=2*i/\h=(v i,X))\/(∃r,i=r+1/\r<n/\k=2*r+1/\h=(m r,aq))))
  (λy=>∃(L:aN->aN) (U:Option ai),y=[Z (.aH<|bw ab L),Z<|.aH<|cv Qz,Z<|.im<|aa x,U]/\(∀f∈ab,L f∈ab)/\(∀a<n,L (m a)=v a)/\∀f,(∀a<n,m a≠f)->L f=C f)
  (λk y I=>by
   obtain⟨L,h,rfl,q,i,u,w,⟨c,rfl,rfl⟩|⟨r,rfl,z,rfl,rfl⟩⟩:=I
   ·cases i with
    |zero=>
     have d:=tC ao (o Qr.hD);rw[Qr.jI];exact⟨aq,_,dw<|de (bE<|eZ d) rfl rfl rfl rfl,(λb=>by cases b),λ_=>⟨L,_,rfl,q,λa S=>u a (fo _) S,λf l=>w f λa W S=>l a S⟩⟩
    |succ r=>
     have d:=tC ao (o<|Qr.ld r c);refine⟨X,_,dw<|de (bE<|eZ d) rfl rfl rfl rfl,λ_=>?_,(λb=>by cases b)⟩;refine⟨.bg,[Z (.aH<|bw ab L),Z<|.aH<|cv Qz,Z<|.im<|aa x,Z<|.im<|bB (m r,aq)],?_,.inl rfl,2*r+1,⋯,L,_,rfl,q,r+1,u,w,.inr ⟨r,rfl,c,rfl,rfl⟩⟩;unfold t6;exact cp (fj (QA:=[Z (.aH<|bw ab L),Z<|.aH<|cv Qz,Z<|.im<|aa x,Z<|.im<|bB (v<|r+1,X)]) rfl rfl) (kK (eZ d) (gB rfl) rfl)
   ·have d:=tC ao (o<|Qr.lc r z);refine⟨X,_,dw<|de (bE<|eZ d) rfl rfl rfl rfl,λ_=>?_,(λb=>by cases b)⟩;refine⟨.bg,[Z (.aH<|bw ab<|j7 L (m r)<|v r),Z<|.aH<|cv Qz,Z<|.im<|aa x,Z<|.im<|bB (v r,X)],?_,.inl rfl,2*r,⋯,j7 L (m r)<|v r,_,rfl,λf l=>?_,r,λa t E=>?_,λf l=>?_,.inl ⟨⋯,rfl,rfl⟩⟩
    ·unfold t6;have J:jy (.aH<|bw ab L) (.im<|aa<|m r) (.im<|aa<|v r)=Z (.aH<|bw ab<|j7 L (m r)<|v r):=by
      show (if V.keys 7 (c3<|m r)=X/\(bw ab L).length<100000 then Z (ai.aH<|fW (bw ab L) (c3<|m r)<|aa<|v r) else Y)=_;rw[aE ⟨lA _,by unfold bw;rw[bj];lia⟩,IV<|B r z]
     refine cp (QA:=[Z (.aH<|bw ab<|j7 L (m r)<|v r),Z<|.aH<|cv Qz,Z<|.im<|aa x,Z<|.im<|bB (m r,aq)]) (m6 (QA:=[Z (.aH<|bw ab L),Z<|.aH<|cv Qz,Z<|.im<|aa x,Z<|.im<|bB (m r,aq)]) rfl<|za (de (bE<|eZ d) rfl rfl rfl<|show bD (.im<|rz<|Z (v r,X)) (aD 0)=Z (.im<|aa<|v r) from rfl)<|EF (n:=aa (m r)) rfl rfl J rfl) (kK (eZ d) (gB rfl) rfl)
    ·unfold j7;split
     ·exact H r ⋯
     ·exact q f l
    ·unfold j7;by_cases b:a=r
     ·rw[b,aE rfl]
     ·rw[aK λp=>b<|A a r E z p];exact u a ⋯ E
    ·unfold j7;rw[aK λp=>l r (a5 _) z p.symm];exact w f λa t E=>l a ⋯ E) 1000000 (2*n) [Z (.aH<|bw ab C),Z<|.aH<|cv Qz,Z<|.im<|aa x,Z<|.im<|bB (v n,X)] ⟨C,_,rfl,F,n,λa t E=>⋯,λf W=>rfl,.inl ⟨a5 _,rfl,rfl⟩⟩ (by
   have:n<=ab.length:=by
    refine bI.rP (L:=m) B λa i t E d=>?_;have:=A a i ⋯ E d;lia
   lia)
 refine⟨L,?_,q,u,w⟩;unfold qZ Ah;refine Km (y:=[Z (.aH<|bw ab L),Z<|.aH<|cv Qz,Z<|.im<|aa x,U]) rfl (cp (QA:=[Z (.aH<|bw ab C),Z<|.aH<|cv Qz,Z<|.im<|aa x,Z<|.im<|bB (x,X)]) rfl ?_) rfl;rw[<-G]at D ⊢;exact D
theorem z8{ab:List aN}{C:aN->aN}(a:∀f∈ab,C f∈ab){x:aN}(b:x∈ab):∀r,bI.it C r x∈ab
 |0=>b
 |r+1=>by rw[bI.il];exact a _ (z8 a b r)
def Hi(q:r<10000)(h:∀f∈ab,C f∈ab)(j:x∈ab)(t:bI.it C (r+1) x=g)(E:∀a,a<=r->bI.it C a x≠g):
  pb [.aH (bw ab C),.im<|aa g,.im<|aa x]=Z (aP<|bI.c7 C x r++[g],[.aH (bw ab C),.im<|aa g,.im<|aa x]):=by
 have rs:∀k,(range<|k+1+1).map (λa=>bI.it C a x)=(range<|k+1).map (λa=>bI.it C a x)++[bI.it C (k+1) x]:=λk=>by rw[yz,fb];rfl
 have l:∀k,dj (((range<|k+1).map<|λa=>bI.it C a x).map aa) (-1)=Z (aa<|bI.it C k x):=λk=>tH (by
  rw[yz,fb,fb];simp)
 let⟨QQ,n,rfl⟩:=o9 (m:=yC) (e:=yX) (λk y=>∃i,i<=r+1/\k=r+1-i/\y=[Z (.aH<|bw ab C),Z<|.im<|aa g,Z<|.im<|aa x,Z<|aP<|(range<|i+1).map λa=>bI.it C a x])
  (λy=>y=[Z (.aH<|bw ab C),Z<|.im<|aa g,Z<|.im<|aa x,Z<|aP<|(range<|r+1+1).map λa=>bI.it C a x])
  (λk y o=>by
   let⟨i,s,rfl,rfl⟩:=o;have p:=nY (bI.it C i x) g;have d:bD (aP<|(range<|i+1).map λa=>bI.it C a x) (aD<|-1)=Z (.im<|aa<|bI.it C i x):=by
    show (dj (((range<|i+1).map<|λa=>bI.it C a x).map aa)<|-1).map ai.im=_;rw[l];rfl
   have b:yC [Z (.aH<|bw ab C),Z<|.im<|aa g,Z<|.im<|aa x,Z<|aP<|(range<|i+1).map λa=>bI.it C a x]=Z (!decide (bI.it C i x=g),[Z (.aH<|bw ab C),Z<|.im<|aa g,Z<|.im<|aa x,Z<|aP<|(range<|i+1).map λa=>bI.it C a x]):=dw (de (bE<|de rfl (bE rfl) rfl rfl d) rfl rfl rfl p);rcases e4 i (r+1) with u|v
   ·rw[c0 (E i ⋯)]at b;refine⟨X,_,b,λ_=>?_,(λc=>by cases c)⟩;refine⟨.bg,_,sP (yy (m:=aP ((range<|i+1).map λa=>bI.it C a x)) rfl rfl (cj (bE<|de rfl (bE<|de rfl (bE rfl) rfl rfl d) rfl rfl<|HC<|z8 h j i) rfl) rfl rfl (u0 (by rw[bj,bj,hq];lia)) rfl),.inl rfl,r+1-(i+1),⋯,i+1,⋯,rfl,?_⟩;rw[rs];show [_,_,_,Z<|ai.lst<|((range<|i+1).map λa=>bI.it C a x).map aa++[aa (C<|bI.it C i x)]]=[_,_,_,Z<|ai.lst<|(((range<|i+1).map λa=>bI.it C a x)++[bI.it C (i+1) x]).map aa];rw[fb,bI.il];rfl
   ·have:i=r+1:=⋯
    subst this;rw[dd t]at b;exact⟨aq,_,b,(λc=>by cases c),λ_=>rfl⟩) 1000000 (r+1) [Z (.aH<|bw ab C),Z<|.im<|aa g,Z<|.im<|aa x,Z<|aP [x]] ⟨0,fo _,rfl,rfl⟩ ⋯
 unfold pb zJ;refine gV (y:=[Z (.aH<|bw ab C),Z<|.im<|aa g,Z<|.im<|aa x,Z .dS]) rfl (cp (QA:=[Z (.aH<|bw ab C),Z<|.im<|aa g,Z<|.im<|aa x,Z<|aP [x]]) rfl<|cp n ?_) rfl;rw[rs,t];rfl
theorem EP:∀(QF a:List (List V×V)),((a++QF).map (·.1)).Nodup->QF.foldl (λg q=>fW g q.1 q.2) a=a++QF
 |[],a,_=>(cC a).symm
 |q::QF,a,c=>by
  rw[lb];have d:fW a q.1 q.2=a++[q]:=by
   unfold fW;rw[aK];intro b;let⟨f,e,h⟩:=qa.mp b;rw[fb]at c;exact (dk.mp c).2.2 f.1 (cO.mpr ⟨f,e,rfl⟩) q.1 (.head _) (hY h)
  rw[d,EP QF (a++[q]) (by rw[bA];exact c),bA];rfl
def uY{QF:List (List V×V)}(c:(QF.map (·.1)).Nodup):en QF=QF:=EP QF [] c
def m8{Rk:Type}{L:QT->Rk}{x:List QT}(inj:∀f∈x,∀H∈x,L f=L H->f=H)(ao:x.Nodup):(x.map L).Nodup:=by
 rw[mS,lG];exact ao.imp_of_mem λ{f H} a b c d=>c (inj f a H b d)
def GQ(ab:List aN):h_ (ab.map λm=>.tup [aa m,aa m])=Z (bw ab id):=by
 induction ab with
 |nil=>rfl
 |cons m s a=>
  rw[cH];show (h_<|s.map λm=>.tup [aa m,aa m]).map (λh=>(c3 m,aa m)::h)=_;rw[a];rfl
def HT(ao:ab.Nodup)(a:ab.length<=1000):ij [.lst (ab.map λm=>.tup [aa m,aa m])]=Z (.aH<|bw ab id):=by
 have t:((bw ab id).all λq=>V.keys 7 q.1)=X:=by
  rw[iC];intro q b;let⟨f,e,rfl⟩:=cO.mp b;exact lA f
 have E:(bw ab id).length<=1000:=by unfold bw;rw[bj];exact a
 have c:en (bw ab id)=bw ab id:=uY (by
  unfold bw;rw[gz];exact m8 (λf W H W d=>lu d) ao)
 show (h_<|ab.map λm=>.tup [aa m,aa m]).bind _=_;rw[GQ];show (if ((bw ab id).all λq=>V.keys 7 q.1)=X/\(bw ab id).length<=1000 then Z (ai.aH<|en<|bw ab id) else Y)=_;rw[aE ⟨t,E⟩,c]
abbrev dJ:=List aN
variable{Qq F:List dJ}
def a4(l:dJ):V:=(.tup (l.map aa))
def q2:V->dJ
 |.tup x=>x.map mP
 |_=>[]
def tu(l:dJ):q2 (a4 l)=l:=by
 show (l.map aa).map mP=l;rw[gz];exact (nP λm W=>xq m).trans (rU l)
def zR{J u:dJ}(c:a4 J=a4 u):J=u:=by rw[<-tu J,c,tu]
def L0{x:List V}{QC:List dJ}(c:x.Perm (QC.map a4)):∃a:List dJ,a.Perm QC/\x=a.map a4:=by
 have d:x=(x.map q2).map a4:=by
  rw[gz];refine (rU x).symm.trans (nP λf b=>?_);let⟨l,W,rfl⟩:=cO.mp (c.mem_iff.mp b);show a4 l=a4 (q2<|a4 l);rw[tu]
 refine⟨x.map q2,?_,d⟩;have:=c.map q2;rw[gz]at this;exact this.trans (Cc<|(nP λl W=>tu l).trans<|rU QC)
theorem sY:∀QF:dJ,V.ck 5 (QF.map aa)=X
 |[]=>rfl
 |m::QF=>by rw[cH,V.ck,sY QF];rfl
theorem z0:∀J u:dJ,fl 5 (J.map aa) (u.map aa)=X
 |[],[]=>rfl
 |[],e::u=>sY (e::u)
 |g::J,[]=>sY (g::J)
 |g::J,e::u=>by
  rw[cH,cH,fl,z0 J u];rfl
def Eo(ao:F.Nodup)(b:F.length<=1000)(ne:∀l∈F,l≠[]):nB (F.map a4):=by
 refine⟨⟨by rw[bj];exact b,λf a H c=>?_,m8 (λf W H W d=>zR d) ao⟩,.inr λf a=>?_⟩
 ·let⟨J,W,rfl⟩:=cO.mp a;let⟨u,W,rfl⟩:=cO.mp c;exact z0 J u
 ·let⟨J,e,rfl⟩:=cO.mp a;cases J with
  |nil=>exact absurd rfl (ne _ e)
  |cons m s=>rfl
def mD(F:List dJ):Prop:=(F.Pairwise λg e=>bF (a4 g) (a4 e)=X)
def Kb(ao:F.Nodup)(a:F.length<=1000)(ne:∀l∈F,l≠[]):∃Qq:List dJ,gJ (F.map a4)=Z (.lst<|Qq.map a4)/\Qq.Perm F/\mD Qq:=by
 have o:=Eo ao a ne;let⟨Qq,t,E⟩:=L0 (iF<|F.map a4);refine⟨Qq,?_,t,?_⟩
 ·unfold gJ;rw[aE (oU.mpr o),E]
 ·have:=tO o.ord.ao o.ord.iW;rw[E]at this;exact lG.mp this
open Classical in
def ee(C:aN->aN)(g x:aN):Nat:=(if c:∃r,bI.kA C g x r then c.choose else 0)
def hI(C:aN->aN)(g e x:aN):dJ:=(g::((bI.c7 C x<|ee C g x).reverse++[e]))
def fK(Qz:fL)(m:aN):Bool:=(decide ((m,aq)∈cA Qz) && !decide ((m,X)∈cA Qz))
structure ea(ab:List aN)(g e:aN)(C:aN->aN)(D:List aN)(Qz:fL):Prop where
 w:bI.dm ab (i2 ab) g e C D
 hf:∀f∈ab,C f∈ab
 s:vA ab C g Qz
def ea.i8(QO:ea ab g e C D Qz){x:aN}(a:x∈D):bI.kA C g x (ee C g x):=by
 have c:∃r,bI.kA C g x r:=QO.w.comes a;unfold ee;rw[dif_pos c];exact c.choose_spec
def ea.dc(QO:ea ab g e C D Qz):D.length<=4:=QO.w.dc (bs:=c2 e) λf c=>(Cn c).2.2
def ea.AS(QO:ea ab g e C D Qz){x:aN}(b:x∈D):ee C g x+1<=ab.length:=by
 have c:=QO.i8 b;exact bI.rP (L:=λa=>bI.it C a x) (λa S=>(QO.w.fi _ (c.2 a ⋯)).1) λa i t E=>QO.w.dist b t λn d=>c.2 n ⋯
def ea.II(QO:ea ab g e C D Qz):(D.map<|hI C g e).Nodup:=by
 refine m8 (λf a H b d=>?_) QO.w.ao;unfold hI at d;have h:=List.append_inj_left' (List.cons.inj d).2 rfl;have i:bI.c7 C f (ee C g f)=bI.c7 C H (ee C g H):=List.reverse_inj.mp h;have c:f∈bI.c7 C f (ee C g f):=bI.pT.mpr ⟨0,fo _,rfl⟩;exact QO.w.apart a b (QO.i8 a) (QO.i8 b) c (i ▸ c)
def ea.next(G:ab.length<=1000)(A:g≠e)(B:e∉c2 g)(QO:ea ab g e C D Qz)(c:(e,aq)∈cA Qz):
  ∃(x:aN) (L:aN->aN),((e,aq),Z (x,X))∈Qz/\qZ [.aH (bw ab C),.aH<|cv Qz,.im<|aa x]=Z (.im .aT,[.aH (bw ab L),.aH<|cv Qz,.im<|aa x])/\bI.dm ab (i2 ab) g e L (D++[x])/\∀f∈ab,L f∈ab:=by
 let⟨⟨h,p⟩,E,d⟩:=cO.mp c;cases d;let⟨a,S,J⟩:=kL.mp E;have z:Qz[a]?=Z ((e,aq),p):=by rw[eb S,J]
 cases p with
 |none=>exact absurd (QO.s.f6.root a _ z) ↥0
 |some q=>
  let⟨i,am,an,M,N⟩:=QO.s.f6.par a _ _ z;let⟨x,o⟩:=q;rcases N with ⟨_,d⟩|⟨O,_,k⟩
  ·exact absurd d ↥0
  ·cases O;let⟨n,m,v,s,j,Qr,r,ap⟩:=QO.s.f6.path i M;have F:∀u<n,m u≠e:=λu T b=>by
    have t:=Qr.lc u T;rw[b]at t;have:=QO.s.f6.l7 t z;have:=Qr.bh u T;have:=Qr.up (a:=u+1) (i:=n) ⋯ (a5 _);lia
   have P:i2 ab x e:=by
    rcases k with k|k
    ·exfalso;have k:e=x:=k;cases n with
     |zero=>exact A (Qr.jI.symm.trans<|r.trans k.symm)
     |succ n=>
      have y:=Qr.ds n (oC _);rw[r,<-k]at y;have Q:=F n (oC _);have:=QO.w.on (m n) (λb=>Q (by rw[<-b,<-y])) (by rw[<-y];exact λb=>A b.symm);rw[<-y]at this;exact this QO.w.vY
    ·exact k
   let⟨L,d,R,U,al⟩:=xh G QO.hf QO.s Qr r;refine⟨x,L,E,d,?_,R⟩;have:=bI.lay QO.w (QO.s.f6.bL Qr F U al) (λf H b=>⟨b.1,b.2.1⟩) (by rw[r];exact P) λb=>B b.2.2;rw[r]at this;exact this
def tq(e:aN)(o:Bool){y:a6}{a:Nat}(c:y[a]?=Z (Z<|.im<|aa e)):dA (ar (aj a)<|ar (ag<|aC<|ua o) aF) y=Z (.im<|bB (e,o),y):=by
 refine sy (M:=[.aU a,.bZ<|.im<|ua o]) (I:=[.im (aa e),.im<|ua o]) (QA:=y) ?_ ?_ (nc rfl) rfl
 ·simp -implicitDefEqProofs [c]
 ·simp -implicitDefEqProofs [c]
abbrev fI(ab:List aN)(g e:aN)(C:aN->aN)(D:List aN)(Qz:fL)(I P:Option ai):a6:=[Z (aM ab),Z<|.im<|aa g,Z<|.im<|aa e,Z<|.aH<|bw ab C,Z<|aP D,Z<|.aH<|cv Qz,I,P]
def Ap(m:aN)(o:Bool)(Qz:fL):ha (.im<|bB (m,o)) (.aH<|cv Qz)=Z (.im<|.ax<|decide ((m,o)∈cA Qz)):=by
 show (eU (bB (m,o))<|.aH<|cv Qz).map (λs=>ai.im<|.ax s)=_;rw[u9];rfl
def GO(m:aN)(o:Bool)(Qz:fL):fE (.im<|bB (m,o)) (.aH<|cv Qz)=Z (.im<|.ax<|!decide ((m,o)∈cA Qz)):=by
 show (eU (bB (m,o))<|.aH<|cv Qz).map (λs=>ai.im<|.ax<|!s)=_;rw[u9];rfl
def Kv(b:ab.length<=1000)(i:g∈ab)(j:g≠e)(B:e∉c2 g)(QO:ea ab g e C D Qz)(c:(e,aq)∈cA Qz):
  ∃(x:aN) (L:aN->aN) (a:fL),sQ (fI ab g e C D Qz Y Y)=Z (.bg,fI ab g e L (D++[x]) a Y Y)/\ea ab g e L (D++[x]) a:=by
 let⟨x,L,k,l,W,d⟩:=QO.next b j B c;let⟨a,n,QI⟩:=DI b d i;refine⟨x,L,a,?_,W,d,QI⟩;have r:=QO.dc;unfold sQ;have o:dA (ar (aj 2)<|ar (ag<|aC<|.str "in") aF) (fI ab g e C D Qz Y Y)=Z (.im<|bB (e,aq),fI ab g e C D Qz Y Y):=tq e aq rfl;have p:az bD (ag<|az bD (aj 5)<|ag<|dA<|ar (aj 2)<|ar (ag<|aC<|.str "in") aF) (ag<|aC<|.int 0) (fI ab g e C D Qz Y Y)=Z (.im<|aa x,fI ab g e C D Qz Y Y):=
  de (bE<|de rfl (bE o) rfl rfl<|tC QO.s.f6.ao k) rfl rfl rfl rfl;have f:(D.map aa)++[aa x]=(D++[x]).map aa:=by rw[fb];rfl
 refine cp (QA:=fI ab g e C (D++[x]) Qz Y Y) (sP (yy (m:=aP D) rfl rfl (cj (bE p) rfl) rfl rfl (u0 (by rw[bj];lia)) (by rw[f];rfl))) ?_;have q:bD (aP<|D++[x]) (aD<|-1)=Z (.im<|aa x):=by
  show (dj ((D++[x]).map aa)<|-1).map ai.im=_;rw[<-f,tH<|wD];rfl
 refine cp (QA:=fI ab g e L (D++[x]) Qz Y Y) (sP<|es (M:=[.aU 3,.aU 5,.bZ<|.im<|aa x]) (cj rfl<|cj rfl<|cj (bE<|de rfl (bE rfl) rfl rfl q) rfl) rfl rfl l rfl) ?_;exact kx (es (M:=[.aU 3,.aU 1]) rfl rfl rfl n rfl) (gB rfl) rfl
def Od(h:ab.length<=1000)(QO:ea ab g e C D Qz){x:aN}(b:x∈D):sM [Z (.im<|aa x),Z<|.im<|aa e,Z<|.aH<|bw ab C,Z<|.im<|aa g]=Z (.im<|a4<|hI C g e x,[Z (.im<|aa x),Z<|.im<|aa e,Z<|.aH<|bw ab C,Z<|.im<|aa g]):=by
 have P:=QO.i8 b;have i:=QO.AS b;have d:=Hi (ab:=ab) (C:=C) (g:=g) (x:=x) (r:=ee C g x) ⋯ QO.hf (QO.w.fi x<|P.2 0<|fo _).1 P.1 λa S=>QO.w.ne (P.2 a S);have c:(bI.c7 C x<|ee C g x).length=ee C g x+1:=by unfold bI.c7;rw[bj,hq]
 have f:bT 3 G.pb (ar (aj 2)<|ar (aj 3)<|ar (aj 0) aF) [Z (.im<|aa x),Z<|.im<|aa e,Z<|.aH<|bw ab C,Z<|.im<|aa g]=Z (aP<|bI.c7 C x (ee C g x)++[g],[Z (.im<|aa x),Z<|.im<|aa e,Z<|.aH<|bw ab C,Z<|.im<|aa g]):=es (M:=[.aU 2,.aU 3,.aU 0]) rfl rfl rfl d rfl;have ad:az eo (ag<|eu<|ar (aj 1) aF) (ag<|bT 3 G.pb<|ar (aj 2)<|ar (aj 3)<|ar (aj 0) aF) [Z (.im<|aa x),Z<|.im<|aa e,Z<|.aH<|bw ab C,Z<|.im<|aa g]=Z (aP (e::(bI.c7 C x (ee C g x)++[g])),[Z (.im<|aa x),Z<|.im<|aa e,Z<|.aH<|bw ab C,Z<|.im<|aa g]):=by
  refine de (bE rfl) (bE f) rfl rfl ?_;show (if [aa e].length+((bI.c7 C x (ee C g x)++[g]).map aa).length<=100000 then Z (ai.lst<|[aa e]++(bI.c7 C x (ee C g x)++[g]).map aa) else Y)=_;rw[aE (by rw[bj,dx,c,fk,fk];lia)];rfl
 unfold sM wi;rw[cj (bE ad) rfl];show Z (ai.im<|.tup ((e::(bI.c7 C x (ee C g x)++[g])).map aa).reverse,_)=_;rw[<-List.map_reverse];unfold a4 hI;rw[v3,E2];rfl
def Oc(ao:ab.Nodup)(a:ab.length<=1000)(i:g∈ab)(R:e∈ab)(j:g≠e)(B:e∉c2 g):
  ∃(C:aN->aN) (D:List aN) (Qz:fL) (Qq:List dJ),qx [aM ab,.im<|aa g,.im<|aa e]=Z (.im<|.tup [.tup ((ab.filter<|fK Qz).map aa),.tup<|Qq.map a4],[aM ab,.im<|aa g,.im<|aa e])/\ea ab g e C D Qz/\(e,aq)∉cA Qz/\Qq.Perm (D.map<|hI C g e)/\mD Qq:=by
 let⟨b,t,u⟩:=DI (C:=id) a (λm c=>c) i;have v:ea ab g e id [] b:=⟨bI.dm.nil,λm c=>c,u⟩;have z:cR 1 [] (cN<|aj 0) (bH 0) dN G.FX [Z (aM ab),Z<|.im<|aa g,Z<|.im<|aa e,Y,Y,Y,Y,Y]=Z (.lst<|ab.map λm=>.tup [aa m,aa m],[Z (aM ab),Z<|.im<|aa g,Z<|.im<|aa e,Y,Y,Y,Y,Y]):=by
  refine ju (w:=ab.map aa) (o:=Y) (QA:=[Z (aM ab),Z<|.im<|aa g,Z<|.im<|aa e,Y,Y,Y,Y,Y]) rfl (iX aa (λm=>.tup [aa m,aa m]) _ (λm W=>?_) ⋯) rfl;exact⟨[Z (.im<|aa m)],_,[Z (.im<|aa m)],rfl,rfl,rfl,rfl⟩
 let⟨QQ,A,⟨C,D,Qz,rfl,QO,E⟩⟩:=o9 (m:=wH) (e:=sQ) (λk y=>∃C D Qz,y=fI ab g e C D Qz Y Y/\ea ab g e C D Qz/\4-D.length<=k) (λy=>∃C D Qz,y=fI ab g e C D Qz Y Y/\ea ab g e C D Qz/\(e,aq)∉cA Qz)
  (λk y F=>by
   let⟨C,D,Qz,rfl,QO,n⟩:=F;have f:wH (fI ab g e C D Qz Y Y)=Z (decide ((e,aq)∈cA Qz),fI ab g e C D Qz Y Y):=dw (de (bE<|tq e aq rfl) rfl rfl rfl<|Ap e aq Qz);by_cases c:(e,aq)∈cA Qz
   ·rw[dd c]at f;let⟨x,L,H,d,p⟩:=Kv a i j B QO c;have:=p.dc;rw[dx,fk]at this;exact⟨X,_,f,λ_=>⟨.bg,_,d,.inl rfl,4-(D++[x]).length,by rw[dx,fk];lia,L,_,H,rfl,p,a5 _⟩,(λh=>by cases h)⟩
   ·rw[c0 c]at f;exact⟨aq,_,f,(λh=>by cases h),λ_=>⟨C,D,Qz,rfl,QO,c⟩⟩) 1000000 4 (fI ab g e id [] b Y Y) ⟨id,[],b,rfl,v,Nat.sub_le _ _⟩ ⋯
 have dc:=QO.dc;have S:(D.map<|hI C g e).length=D.length:=bj _;let⟨Qq,q,T,up⟩:=Kb QO.II ⋯ (λl I=>by
  let⟨x,W,rfl⟩:=cO.mp I;exact xd _ _)
 refine⟨C,D,Qz,Qq,?_,QO,E,T,up⟩;have J:cR 1 [5] (cN<|aj 0) (bH 0) G.yH G.FJ (fI ab g e C D Qz Y Y)=Z (aP<|ab.filter<|fK Qz,fI ab g e C D Qz Y Y):=by
  refine ju (w:=ab.map aa) (o:=Y) (QA:=fI ab g e C D Qz Y Y) rfl (lC aa (fK Qz) aa _ [] (λm W=>?_) (by rw[jg];lia)) rfl;refine⟨[Z (.im<|aa m),Z<|.aH<|cv Qz],[Z (.im<|aa m),Z<|.aH<|cv Qz],rfl,?_,λ_=>rfl,λ_=>⟨[Z (.im<|aa m),Z<|.aH<|cv Qz],rfl,rfl⟩⟩;have Q0:bu (az ha (ag<|dA<|ar (aj 0)<|ar (ag<|aC<|.str "in") aF)<|aj 1) [Z (.im<|aa m),Z<|.aH<|cv Qz]=Z (decide ((m,aq)∈cA Qz),[Z (.im<|aa m),Z<|.aH<|cv Qz]):=dw (de (bE<|tq m aq rfl) rfl rfl rfl<|Ap m aq Qz);have Q6:bu (az fE (ag<|dA<|ar (aj 0)<|ar (ag<|aC<|.str "out") aF)<|aj 1) [Z (.im<|aa m),Z<|.aH<|cv Qz]=Z (!decide ((m,X)∈cA Qz),[Z (.im<|aa m),Z<|.aH<|cv Qz]):=dw (de (bE<|tq m X rfl) rfl rfl rfl<|GO m X Qz);unfold yH fK;cases r:decide ((m,aq)∈cA Qz) with
  |false=>rw[r]at Q0;exact tY Q0
  |true=>rw[r]at Q0;exact jG Q0 (Q6.trans (by rw[BA]))
 have N:cR 1 [2,3,1] (cN<|aj 4) (bH 0) dN G.sM (fI ab g e C D Qz (Z<|aP<|ab.filter<|fK Qz) Y)=Z (.lst<|D.map λx=>a4<|hI C g e x,fI ab g e C D Qz (Z<|aP<|ab.filter<|fK Qz) Y):=by
  refine ju (w:=D.map aa) (o:=Z (4,aP D)) (QA:=[Z (aM ab),Z<|.im<|aa g,Z<|.im<|aa e,Z<|.aH<|bw ab C,Z .dS,Z<|.aH<|cv Qz,Z<|aP<|ab.filter<|fK Qz,Y]) rfl (iX aa (λx=>a4<|hI C g e x) _ (λx n=>?_) ⋯) rfl;exact⟨[Z (.im<|aa x),Z<|.im<|aa e,Z<|.aH<|bw ab C,Z<|.im<|aa g],_,[Z (.im<|aa x),Z<|.im<|aa e,Z<|.aH<|bw ab C,Z<|.im<|aa g],rfl,rfl,Od a QO n,rfl⟩
 have O:jl [.lst (D.map λx=>a4<|hI C g e x)]=Z (.lst<|Qq.map a4):=by
  rw[gz]at q;cases D with
  |nil=>
   have:Qq=[]:=List.perm_nil.mp T;rw[this];rfl
  |cons x s=>exact q
 have P:bu (az d7 (aj 1)<|aj 2) [Z (aM ab),Z<|.im<|aa g,Z<|.im<|aa e,Y,Y,Y,Y,Y]=Z (aq,[Z (aM ab),Z<|.im<|aa g,Z<|.im<|aa e,Y,Y,Y,Y,Y]):=dw (eZ ((Of g e).trans (by rw[c0 j])));have Q:bu (az ha (aj 2)<|ag<|bT 1 G.o2<|ar (aj 1) aF) [Z (aM ab),Z<|.im<|aa g,Z<|.im<|aa e,Y,Y,Y,Y,Y]=Z (aq,[Z (aM ab),Z<|.im<|aa g,Z<|.im<|aa e,Y,Y,Y,Y,Y]):=by
  refine dw (de rfl (bE<|es (M:=[.aU 1]) rfl rfl rfl (L4 g) rfl) rfl rfl ?_);show (eU (aa e)<|aP<|c2 g).map (λs=>ai.im<|.ax s)=_;rw[rN,c0 B];rfl
 unfold qx De;refine gV (y:=fI ab g e C D Qz (Z<|aP<|ab.filter<|fK Qz) (Z<|.lst<|D.map λx=>a4<|hI C g e x)) rfl ?_ rfl;refine cp (fj (ig P Q) rfl) (cp (QA:=[Z (aM ab),Z<|.im<|aa g,Z<|.im<|aa e,Z<|.aH<|bw ab id,Y,Y,Y,Y]) (kK (eC (cj (bE z) rfl) rfl<|HT ao a) (gB rfl) rfl) ?_);refine cp (QA:=[Z (aM ab),Z<|.im<|aa g,Z<|.im<|aa e,Z<|.aH<|bw ab id,Z<|aP [],Y,Y,Y]) rfl (cp (QA:=fI ab g e id [] b Y Y) (kx (es (M:=[.aU 3,.aU 1]) rfl rfl rfl t rfl) (gB rfl) rfl)<|cp A ?_);refine cp (kK J (gB rfl) rfl) (cp (kK N (gB rfl) rfl)<|i3<|sy (cj (bE<|eC (cj rfl rfl) rfl rfl)<|cj (bE<|eC (cj (bE<|eC (cj rfl rfl) rfl O) rfl) rfl rfl) rfl) rfl (nc rfl) rfl)
def wR(x:List aN)(m:aN):fE (.im<|aa m) (aM x)=Z (.im<|.ax<|!decide (m∈x)):=by
 show (eU (aa m)<|aM x).map (λs=>ai.im<|.ax<|!s)=_;rw[Fv];rfl
def si(x:List aN)(m:aN):fE (.im<|aa m) (aP x)=Z (.im<|.ax<|!decide (m∈x)):=by
 show (eU (aa m)<|aP x).map (λs=>ai.im<|.ax<|!s)=_;rw[rN];rfl
def zz(x:List aN)(m:aN):ha (.im<|aa m) (aM x)=Z (.im<|.ax<|decide (m∈x)):=by
 show (eU (aa m)<|aM x).map (λs=>ai.im<|.ax s)=_;rw[Fv];rfl
def GS(x:List aN)(m:aN):ha (.im<|aa m) (aP x)=Z (.im<|.ax<|decide (m∈x)):=by
 show (eU (aa m)<|aP x).map (λs=>ai.im<|.ax s)=_;rw[rN];rfl
def Cq(bs:List aN):d7 (aP bs) (.lst [])=Z (.im<|.ax<|decide (bs=[])):=by
 show (if (V.ck 8 (bs.map aa)&&V.ck 8 [])=X then Z (ai.im<|.ax<|dW (bs.map aa) []) else Y)=_;rw[m4,aE<|show (X&&V.ck 8 [])=X from rfl];cases bs with
 |nil=>rfl
 |cons g s=>rfl
def N8{c:ai}(j:dX (r+2) c)(N:ab.length<=1000)(x:ab≠[]):∃T,dX r T/\(oz [c,aM ab]=Z (.im .aT,[T,aM ab])\/∃g e,g∈ab/\e∈ab/\g≠e/\e∉c2 g/\oz [c,aM ab]=Z (.im<|.tup [aa g,aa e],[T,aM ab])):=by
 have O:=ql.mpr x;let⟨u,t,z,A,P,QB⟩:=iZ (r:=r+1) (k:=(ab.length:Int)) j ⋯ ⋯;obtain⟨g,i⟩:∃g,ab[u.toNat]?=Z g:=⟨ab[u.toNat]'⋯,by simp⟩;let⟨l,rfl⟩:=j.lst;let⟨b,rfl⟩:=QB.lst;have B:dy [aM ab]=Z (aD (ab.length:Int)):=by
  show Z (ai.im<|.int ((ab.map aa).length:Int))=_;rw[bj]
 have C:bD (aM ab) (aD u)=Z (.im<|aa g):=by
  show (dj (ab.map aa) u).map ai.im=_;rw[pM A i];rfl
 have n:bV 2 (az bD (aj 1)<|ag<|bT 2 G.fA<|ar (aj 0)<|ar (ag<|b9 dy<|ar (aj 1) aF) aF) [Z (.lst l),Z<|aM ab,Y,Y]=Z (.bg,[Z (.lst b),Z<|aM ab,Z<|.im<|aa g,Y]):=
  kx (tL (QA:=[Z (.lst l),Z<|aM ab,Y,Y]) (Q4:=[Z (.lst b),Z<|aM ab,Y,Y]) rfl (qk<|es (M:=[.aU 0,.bZ<|aD (ab.length:Int)]) (cj rfl<|cj (bE<|eC (cj rfl rfl) rfl B) rfl) rfl rfl z rfl) rfl rfl C) (gB rfl) rfl;have D:cR 1 [2] (cN<|aj 1) (bH 0) G.sv G.vO [Z (.lst b),Z<|aM ab,Z<|.im<|aa g,Y]=Z (aP<|ab.filter λm=>!decide (m=g) && !decide (m∈c2 g),[Z (.lst b),Z<|aM ab,Z<|.im<|aa g,Y]):=by
  refine ju (w:=ab.map aa) (o:=Y) (QA:=[Z (.lst b),Z<|aM ab,Z<|.im<|aa g,Y]) rfl (lC aa (λm=>!decide (m=g) && !decide (m∈c2 g)) aa _ [] (λm W=>?_) (by rw[jg];lia)) rfl;refine⟨[Z (.im<|aa m),Z<|.im<|aa g],[Z (.im<|aa m),Z<|.im<|aa g],rfl,?_,λ_=>rfl,λ_=>⟨[Z (.im<|aa m),Z<|.im<|aa g],rfl,rfl⟩⟩;have Q0:bu (az eB (aj 0)<|aj 1) [Z (.im<|aa m),Z<|.im<|aa g]=Z (!decide (m=g),[Z (.im<|aa m),Z<|.im<|aa g]):=dw (eZ<|nY m g);have Q6:bu (az fE (aj 0)<|ag<|bT 1 G.k2<|ar (aj 1) aF) [Z (.im<|aa m),Z<|.im<|aa g]=Z (!decide (m∈c2 g),[Z (.im<|aa m),Z<|.im<|aa g]):=dw (de rfl (bE<|es (M:=[.aU 1]) rfl rfl rfl (pv g) rfl) rfl rfl<|si (c2 g) m);unfold sv;cases p:(!decide (m=g)) with
  |false=>rw[p]at Q0;exact tY Q0
  |true=>rw[p]at Q0;exact jG Q0 (Q6.trans (by rw[BA]))
 have f:bV 3 (cR 1 [2] (cN<|aj 1) (bH 0) G.sv G.vO) [Z (.lst b),Z<|aM ab,Z<|.im<|aa g,Y]=Z (.bg,[Z (.lst b),Z<|aM ab,Z<|.im<|aa g,Z<|aP<|ab.filter λm=>!decide (m=g) && !decide (m∈c2 g)]):=kK D (gB rfl) rfl;generalize q:(ab.filter λm=>!decide (m=g) && !decide (m∈c2 g))=a at f;have d:bu (az d7 (aj 3)<|ag<|eu aF) [Z (.lst b),Z<|aM ab,Z<|.im<|aa g,Z<|aP a]=Z (decide (a=[]),[Z (.lst b),Z<|aM ab,Z<|.im<|aa g,Z<|aP a]):=dw (de rfl (bE rfl) rfl rfl<|Cq a);by_cases Qx:a=[]
 ·rw[dd Qx]at d;refine⟨.lst b,QB.mono ⋯,.inl ?_⟩;unfold oz yl;exact gV (y:=[Z (.lst b),Z<|aM ab,Z<|.im<|aa g,Z<|aP a]) rfl (cp n<|cp f<|yD<|m6 d rfl) rfl
 ·rw[c0 Qx]at d;have Ru:=ql.mpr Qx;have aU:a.length<=ab.length:=by rw[<-q];exact t5 _ _
  let⟨J,E,F,H,Q,QN⟩:=iZ (r:=r) (k:=(a.length:Int)) QB ⋯ ⋯;obtain⟨e,s⟩:∃e,a[J.toNat]?=Z e:=⟨a[J.toNat]'⋯,by simp⟩;let⟨h,rfl⟩:=QN.lst;have v:=fe s;rw[<-q]at v;let⟨dV,dg⟩:=hS.mp v;rw[cI,ks,ks,k_,k_]at dg;refine⟨.lst h,QN,.inr ⟨g,e,fe i,dV,λI=>dg.1 I.symm,dg.2,?_⟩⟩;have aZ:dy [aP a]=Z (aD (a.length:Int)):=by
   show Z (ai.im<|.int ((a.map aa).length:Int))=_;rw[bj]
  have L:bD (aP a) (aD J)=Z (.im<|aa e):=by
   show (dj (a.map aa) J).map ai.im=_;rw[pM H s];rfl
  unfold oz yl;refine gV (y:=[Z (.lst h),Z<|aM ab,Z<|.im<|aa g,Z<|aP a]) rfl (cp n<|cp f<|cp (fj d rfl)<|i3<|sy (M:=[.aU 2,.bZ<|.im<|aa e]) (QA:=[Z (.lst h),Z<|aM ab,Z<|.im<|aa g,Z<|aP a]) (xu rfl<|xu (qk<|tL (QA:=[Z (.lst b),Z<|aM ab,Z<|.im<|aa g,Z<|aP a]) rfl (qk<|es (M:=[.aU 0,.bZ<|aD (a.length:Int)]) (cj rfl<|cj (bE<|eC (cj rfl rfl) rfl aZ) rfl) rfl rfl F rfl) rfl rfl L) rfl) rfl (nc rfl) rfl) rfl
def Fm{f:ai}(a:FR f R)(i:ab.length<=200):∃A:Bool,oQ [aM ab,.im<|aa g,.im<|aa e,f]=Z (.im<|.ax A,[aM ab,.im<|aa g,.im<|aa e,f])/\(A=X↔¬ ec (ab.filter λm=>!decide (m∈R)) g e):=by
 have pZ:=t5 (λm=>!decide (m∈R)) ab;let⟨b,d,W,c,W⟩:=EU (f:=aP (ab.filter λm=>!decide (m∈R))) (R:=ab.filter λm=>!decide (m∈R)) (e:=g) (.inl rfl) ⋯;have h:cR 1 [3] (cN<|aj 0) (bH 0) G.EO G.z4 [Z (aM ab),Z<|.im<|aa g,Z<|.im<|aa e,Z f]=Z (aP<|ab.filter λm=>!decide (m∈R),[Z (aM ab),Z<|.im<|aa g,Z<|.im<|aa e,Z f]):=by
  refine ju (w:=ab.map aa) (o:=Y) (QA:=[Z (aM ab),Z<|.im<|aa g,Z<|.im<|aa e,Z f]) rfl (lC aa (λm=>!decide (m∈R)) aa _ [] (λm W=>?_) (by rw[jg];lia)) rfl;refine⟨[Z (.im<|aa m),Z f],[Z (.im<|aa m),Z f],rfl,dw ?_,λ_=>rfl,λ_=>⟨[Z (.im<|aa m),Z f],rfl,rfl⟩⟩;rcases a with rfl|rfl
  ·exact eZ (si R m)
  ·exact eZ (wR R m)
 refine⟨!decide (e∈b),?_,?_⟩
 ·unfold oQ E0;refine gV (y:=[Z (aM ab),Z<|.im<|aa g,Z<|.im<|aa e,Z f]) rfl (i3<|de rfl (bE<|es (M:=[.bZ (aP<|ab.filter λm=>!decide (m∈R)),.aU 1]) (cj (bE h) rfl) rfl rfl d rfl) rfl rfl<|wR b e) ?_;rcases a with rfl|rfl<;>rfl
 ·rw[ks,k_,c]
theorem zw{QT:Type}(C:QT->Bool):∀w:List QT,mG (w.map λs=>.ax<|C s)=Z (w.map C)
 |[]=>rfl
 |f::w=>by
  show (mG<|w.map λs=>.ax<|C s).map _=_;rw[zw C w];rfl
def yM(C:QT->Bool)(w:List QT):lZ [.lst (w.map λs=>.ax<|C s)]=Z (.im<|.ax<|w.all C):=by
 show (mG _).map _=_;rw[zw,mr,ya];rfl
def nd(l:dJ):Bool:=((l.zip<|l.drop 1).all λq=>decide (q.2∈c2 q.1))
def JN{Q5:Option ai}(a:m∈ab):uj [Z (aM ab),Q5,Z<|.im<|aa m]=Z (.bg,[Z (aM ab),Q5,Z<|.im<|aa m]):=by
 have b:bu (az fE (aj 2)<|aj 0) [Z (aM ab),Q5,Z<|.im<|aa m]=Z (aq,[Z (aM ab),Q5,Z<|.im<|aa m]):=dw (eZ ((wR ab m).trans (by rw[dd a];rfl)));unfold uj;refine cp (fj (ig (QA:=[Z (aM ab),Q5,Z<|.im<|aa m]) rfl<|ig (QA:=[Z (aM ab),Q5,Z<|.im<|aa m]) rfl b) rfl) (fj (QA:=[Z (aM ab),Q5,Z<|.im<|aa m]) rfl rfl)
def C8{l:dJ}(r:l.length<=1000)(c:l≠[])(d:∀m∈l,m∈ab)(b:nd l=X):pR [aM ab,.im<|a4 l]=Z (.im<|.ax X,[aM ab,.im<|a4 l]):=by
 let⟨QQ,g,Rd,rfl⟩:=pl (QY:=bH 2) (e:=uj) (w:=l.map aa) (λ_ y=>∃Rd,y=[Z (aM ab),Z<|.im<|a4 l,Rd]) (y:=[Z (aM ab),Z<|.im<|a4 l,Y]) ⟨Y,rfl⟩ (λa f y h i=>by
  let⟨Rd,rfl⟩:=i;let⟨m,j,rfl⟩:=cO.mp (fe h);exact⟨_,.bg,_,rfl,JN<|d m j,.inl rfl,_,rfl⟩)
 have k:dy [.im (a4 l)]=Z (aD (l.length:Int)):=by
  show Z (ai.im<|.int ((l.map aa).length:Int))=_;rw[bj]
 have s:=ql.mpr c;have Q6:bu (az d7 (ag<|b9 dy<|ar (aj 1) aF)<|ag<|aC<|.int 0) [Z (aM ab),Z<|.im<|a4 l,Y]=Z (aq,[Z (aM ab),Z<|.im<|a4 l,Y]):=dw (de (bE<|eC (cj rfl rfl) rfl k) rfl rfl rfl ((r9 _ _).trans (by rw[c0 ⋯])));have n:gb (l.map aa) (fm (l.map aa) (Z 1) Y)=(l.zip<|l.drop 1).map λq=>.tup [aa q.1,aa q.2]:=by
  rw[sr,show (1:Int)=((1:Nat):Int) from rfl,PV,zE]
 have t:(l.zip<|l.drop 1).length<=1000:=by rw[xW];lia
 have p:cR 2 [] (pD<|ar (aj 1)<|ar (ag<|j4 (aj 1) (kr<|aC<|.int 1) lJ) aF) (og 2<|iw (bH 0)<|iw (bH 1) mU) dN G.DX [Z (aM ab),Z<|.im<|a4 l,Rd]=Z (.lst<|(l.zip<|l.drop 1).map λq=>.ax<|decide (q.2∈c2 q.1),[Z (aM ab),Z<|.im<|a4 l,Rd]):=by
  refine ju (w:=(l.zip<|l.drop 1).map λq=>.tup [aa q.1,aa q.2]) (o:=Y) (QA:=[Z (aM ab),Z<|.im<|a4 l,Rd]) ?_ (iX (λq:aN×aN=>.tup [aa q.1,aa q.2]) (λq=>.ax<|decide (q.2∈c2 q.1)) _ (λq W=>?_) ⋯) rfl
  ·rw[<-n];exact LK (cj rfl<|cj (bE<|wG rfl rfl rfl rfl rfl) rfl) rfl
  ·refine⟨[Z (.im<|aa q.1),Z<|.im<|aa q.2],_,[Z (.im<|aa q.1),Z<|.im<|aa q.2],rfl,rfl,?_,rfl⟩;exact de rfl (bE<|es (M:=[.aU 0]) rfl rfl rfl (pv q.1) rfl) rfl rfl (GS (c2 q.1) q.2)
 unfold pR C3;refine gV (y:=[Z (aM ab),Z<|.im<|a4 l,Rd]) rfl (cp (fj (ig (QA:=[Z (aM ab),Z<|.im<|a4 l,Y]) rfl Q6) rfl)<|cp (mO (o:=Y) (w:=l.map aa) (QA:=[Z (aM ab),Z<|.im<|a4 l,Y]) rfl g rfl)<|i3<|eC (cj (bE p) rfl) rfl<|(yM _ _).trans ?_) rfl;unfold nd at b;rw[b]
theorem rI:∀R:List aN,dW (R.map aa) (R.map aa)=X
 |[]=>rfl
 |m::R=>by rw[cH,dW,qd,dd rfl,rI R];rfl
theorem vk:∀Qq:List dJ,dW (Qq.map a4) (Qq.map a4)=X
 |[]=>rfl
 |l::Qq=>by
  rw[cH,dW,vk Qq];show (dW (l.map aa) (l.map aa)&&X)=X;rw[rI];rfl
theorem DF:∀QF:dJ,V.ck 7 (QF.map aa)=X
 |[]=>rfl
 |m::QF=>by rw[cH,V.ck,DF QF];rfl
theorem C_:∀Qq:List dJ,V.ck 8 (Qq.map a4)=X
 |[]=>rfl
 |l::Qq=>by
  rw[cH,V.ck,C_ Qq];show (V.ck 7 (l.map aa)&&X)=X;rw[DF];rfl
def lX.ao(c:lX R):R.Nodup:=by
 refine mS.mpr (c.imp λ{f H} d z=>?_);rw[z,qo]at d;cases d
def mD.ao(c:mD Qq):Qq.Nodup:=by
 refine mS.mpr (c.imp λ{f H} d z=>?_);rw[z,qo]at d;cases d
def um(c:lX R)(a:R.length<=1000):jl [.aH (bR R)]=Z (aP R):=by
 have o:=uZ c.ao a;show gJ ((bR R).map λq=>.tup q.1)=Z (aP R);rw[uK];unfold gJ;rw[aE (oU.mpr o),<-Ba o.ord (List.Perm.refl _) (lG.mpr c)]
def KV(ao:R.Nodup)(a:R.length<=1000):ij [.lst (R.map λm=>.tup [aa m,.ax X])]=Z (.aH<|bR R):=by
 have b:en (bR R)=bR R:=uY (by
  unfold bR;rw[gz];exact m8 (λf W H W d=>lu d) ao)
 show (h_<|R.map λm=>.tup [aa m,.ax X]).bind _=_;rw[uL];show (if ((bR R).all λq=>V.keys 7 q.1)=X/\(bR R).length<=1000 then Z (ai.aH<|en<|bR R) else Y)=_;rw[aE ⟨vB R,by unfold bR;rw[bj];exact a⟩,b]
theorem BW(w:List QT):lZ [.lst (w.map λ_=>.ax X)]=Z (.im<|.ax X):=(yM (λ_=>X) w).trans (by rw[iC.mpr λ_ W=>rfl])
def G8(c:∀m∈R,m∈ab)(up:lX R)(a:R.length<=1000):rG [aM ab,aM R]=Z (.im<|.ax X,[aM ab,aM R]):=by
 have d:cR 1 [0] (cN<|aj 1) (bH 0) dN G.Di [Z (aM ab),Z<|aM R]=Z (.lst<|R.map λ_=>.ax X,[Z (aM ab),Z<|aM R]):=by
  refine ju (w:=R.map aa) (o:=Y) (QA:=[Z (aM ab),Z<|aM R]) rfl (iX aa (λ_=>.ax X) _ (λm b=>?_) ⋯) rfl;exact⟨[Z (.im<|aa m),Z<|aM ab],_,[Z (.im<|aa m),Z<|aM ab],rfl,rfl,es (M:=[.aU 1,.bZ<|.im<|a4 [m]]) (cj rfl<|cj (bE rfl) rfl) rfl rfl (C8 (l:=[m]) (nc rfl) (xd _ _) (λf e=>by rw[cK.mp e];exact c m b) rfl) rfl,rfl⟩
 have g:cR 1 [] (cN<|aj 1) (bH 0) dN G.y6 [Z (aM ab),Z<|aM R]=Z (.lst<|R.map λm=>.tup [aa m,.ax X],[Z (aM ab),Z<|aM R]):=by
  refine ju (w:=R.map aa) (o:=Y) (QA:=[Z (aM ab),Z<|aM R]) rfl (iX aa (λm=>.tup [aa m,.ax X]) _ (λm b=>?_) ⋯) rfl;exact⟨[Z (.im<|aa m)],_,[Z (.im<|aa m)],rfl,rfl,rfl,rfl⟩
 have h:d7 (aP R) (aP R)=Z (.im<|.ax X):=by
  show (if (V.ck 8 (R.map aa)&&V.ck 8 (R.map aa))=X then Z (ai.im<|.ax<|dW (R.map aa)<|R.map aa) else Y)=_;rw[m4,aE<|show (X&&X)=X from rfl,rI]
 unfold rG AZ;refine gV (y:=[Z (aM ab),Z<|aM R]) rfl (cp (fj (ig (QA:=[Z (aM ab),Z<|aM R]) rfl<|qB<|ly (bE<|eC (cj (bE d) rfl) rfl<|BW R) rfl rfl) rfl)<|i3<|de (bE<|eC (cj rfl rfl) rfl rfl) (bE<|eC (cj (bE<|eC (cj (bE g) rfl) rfl<|KV up.ao a) rfl) rfl<|um up a) rfl rfl h) rfl
def hG(l:dJ):dJ:=((l.drop 1).dropLast)
def xG(g e:aN)(k:dJ):hG (g::(k++[e]))=k:=by
 unfold hG;rw[List.drop_one,List.tail_cons,List.dropLast_concat]
def Nb(f H:QT)(k:List QT):fm (f::(k++[H])) (Z 1) (Z<|-1)=k:=by
 unfold fm c4.b4;have:(f::(k++[H])).length=k.length+2:=by simp
 rw[this];have b:∀n:Nat,n=1->((f::(k++[H])).drop n)=k++[H]:=λn a=>by rw[a];rfl
 simp only[];rw[b _ (by split<;>lia)];have c:∀n:Nat,n=k.length->(k++[H]).take n=k:=λn a=>by rw[a,List.take_left]
 exact c _ (by split<;>split<;>lia)
def hA(Qq:List dJ):List (List V×V):=(Qq.map λl=>(l.map aa,.ax X))
theorem DO:∀QF:dJ,V.keys 7 (QF.map aa)=X
 |[]=>rfl
 |m::QF=>by rw[cH,V.keys,DO QF];rfl
def IA(Qq:List dJ):h_ (Qq.map λl=>.tup [a4 l,.ax X])=Z (hA Qq):=by
 induction Qq with
 |nil=>rfl
 |cons m s a=>
  rw[cH];show (h_<|s.map λl=>.tup [a4 l,.ax X]).map (λh=>(m.map aa,.ax X)::h)=_;rw[a];rfl
def Oo(ao:Qq.Nodup)(a:Qq.length<=1000):ij [.lst (Qq.map λl=>.tup [a4 l,.ax X])]=Z (.aH<|hA Qq):=by
 have t:((hA Qq).all λq=>V.keys 7 q.1)=X:=by
  rw[iC];intro q b;let⟨f,e,rfl⟩:=cO.mp b;exact DO f
 have c:en (hA Qq)=hA Qq:=uY (by
  unfold hA;rw[gz];exact m8 (λf W H W d=>zR<|congrArg V.tup d) ao)
 show (h_<|Qq.map λl=>.tup [a4 l,.ax X]).bind _=_;rw[IA];show (if ((hA Qq).all λq=>V.keys 7 q.1)=X/\(hA Qq).length<=1000 then Z (ai.aH<|en<|hA Qq) else Y)=_;rw[aE ⟨t,by unfold hA;rw[bj];exact a⟩,c]
def IF(c:mD Qq)(a:Qq.length<=1000)(ne:∀l∈Qq,l≠[]):jl [.aH (hA Qq)]=Z (.lst<|Qq.map a4):=by
 have o:=Eo c.ao a ne;have d:((hA Qq).map λq=>V.tup q.1)=Qq.map a4:=by unfold hA;rw[gz];rfl
 show gJ ((hA Qq).map λq=>.tup q.1)=_;rw[d];unfold gJ;rw[aE (oU.mpr o),<-Ba o.ord (List.Perm.refl _) (lG.mpr c)]
def DP{F:List aN}(ao:F.Nodup):(gk<|F.map c3).length=F.length:=by
 have a:(F.map c3).Nodup:=m8 (λf W H W d=>lu d) ao;rw[((vz (Iv _) a).mpr λf=>Jm).length_eq,bj]
def M0{F:List aN}(c:y[a]?=Z (Z<|aP F))(ao:F.Nodup)(b:F.length<300):sS (ar (aj a) aF) y=Z (aD (F.length:Int),y):=by
 have d:F.map aa=(F.map c3).map .tup:=by rw[gz];rfl
 have e:pB (F.map c3)=X:=E6.mpr ⟨λn g=>by
  let⟨f,W,rfl⟩:=cO.mp g;exact lA f,by rw[DP ao];exact b⟩
 have h:ar (aj a) aF y=Z ([.aU a],y):=by simp -implicitDefEqProofs [c]
 have i:gA y [.aU a]=Z [aP F]:=by simp -implicitDefEqProofs [c]
 unfold sS;rw[h];show (gA y [.aU a]).bind _=_;rw[i];show (ox<|F.map aa).bind _=_;rw[d,zD];show (if pB (F.map c3)=X then Z (ai.im<|.int ((gk<|F.map c3).length:Int),y) else Y)=_;rw[aE e,DP ao]
structure p9(ab:List aN)(g e:aN)(Qq:List dJ):Prop where
 up:mD Qq
 dc:Qq.length<=1000
 len:∀l∈Qq,l.length<=1000
 c7:∀l∈Qq,∀m∈l,m∈ab
 ch:∀l∈Qq,nd l=X
 nu:∀l∈Qq,∃k,l=g::(k++[e])
 ao:(Qq.flatMap hG).Nodup
 aR:(Qq.flatMap hG).length<300
 na:g∉Qq.flatMap hG
 nb:e∉Qq.flatMap hG
def p9.ne(O:p9 ab g e Qq):∀l∈Qq,l≠[]:=λl a=>by
 let⟨k,rfl⟩:=O.nu l a;exact xd _ _
def Gz{k F:dJ}(c:k.length<=1000)(i:F.length<=1000):rp [Z (aM ab),Z<|.im<|aa g,Z<|.im<|aa e,U,Z<|aP F,Z<|.im<|a4 (g::(k++[e]))]=Z (.bg,[Z (aM ab),Z<|.im<|aa g,Z<|.im<|aa e,U,Z<|aP<|F++k,Z<|.im<|a4 (g::(k++[e]))]):=by
 have aZ:dy [.im (a4 (g::(k++[e])))]=Z (aD ((k.length+2:Nat):Int)):=by
  show Z (ai.im<|.int (((g::(k++[e])).map aa).length:Int))=_;rw[bj,ey,dx,fk]
 have bh:wd (aD ((k.length+2:Nat):Int)) (aD 2)=Z (.im<|.ax aq):=by
  show Z (ai.im<|.ax<|decide (((k.length+2:Nat):Int)<2))=_;rw[c0 ⋯]
 have a:bD (.im<|a4 (g::(k++[e]))) (aD<|-1)=Z (.im<|aa e):=by
  show (dj ((g::(k++[e])).map aa)<|-1).map ai.im=_;rw[tH (v:=aa e) (by rw[<-qN,fb];exact wD)];rfl
 have b:bD (.im<|a4 (g::(k++[e]))) (aD 0)=Z (.im<|aa g):=by
  show (dj ((g::(k++[e])).map aa) 0).map ai.im=_;rw[uz (jJ 0) (v:=aa g) rfl];rfl
 have d:eB (.im<|aa g) (.im<|aa g)=Z (.im<|.ax aq):=(nY g g).trans (by rw[dd rfl];rfl);have f:eB (.im<|aa e) (.im<|aa e)=Z (.im<|.ax aq):=(nY e e).trans (by rw[dd rfl];rfl);have h:nt (.im<|a4 (g::(k++[e]))) (Z 1) (Z<|-1)=Z (aM k):=by
  show Z (ai.im<|.tup<|fm ((g::(k++[e])).map aa) (Z 1)<|Z<|-1)=_;rw[sr,Nb]
 have ad:eo (aP F) (aP k)=Z (aP<|F++k):=by
  show (if (F.map aa).length+(k.map aa).length<=100000 then Z (ai.lst<|F.map aa++k.map aa) else Y)=_;rw[aE (by rw[bj,bj];lia),<-fb]
 unfold rp;exact cp (fj (ig (dw<|de (bE<|eC (cj rfl rfl) rfl aZ) rfl rfl rfl bh)<|ig (dw<|de (bE<|eZ b) rfl rfl rfl d)<|dw<|de (bE<|de rfl (bE rfl) rfl rfl a) rfl rfl rfl f) rfl) (kK (de rfl (bE<|eC (cj (bE<|wG rfl rfl rfl rfl h) rfl) rfl rfl) rfl rfl ad) (gB rfl) rfl)
theorem Co{ab:List aN}{g e:aN}{U:Option ai}:∀(Qq:List dJ) (F:dJ) (L:Option ai),(∀l∈Qq,∃k,l=g::(k++[e]))->F.length+(Qq.flatMap hG).length<=1000->
  ∃a,d5 (bH 5) rp (Qq.map a4) [Z (aM ab),Z<|.im<|aa g,Z<|.im<|aa e,U,Z<|aP F,L]=Z (.bg,[Z (aM ab),Z<|.im<|aa g,Z<|.im<|aa e,U,Z<|aP<|F++Qq.flatMap hG,a])
 |[],F,L,_,_=>⟨L,by rw[List.flatMap_nil,cC];rfl⟩
 |l::Qq,F,L,nu,b=>by
  let⟨k,rfl⟩:=nu l (.head _);rw[pL,xG,dx]at b;let⟨a,c⟩:=Co (ab:=ab) (U:=U) Qq (F++k) (Z<|.im<|a4 (g::(k++[e]))) (λl d=>nu l<|.tail _ d) (by rw[dx];lia);refine⟨a,?_⟩;rw[cH,d5];show (rp [Z (aM ab),Z<|.im<|aa g,Z<|.im<|aa e,U,Z<|aP F,Z<|.im<|a4 (g::(k++[e]))]).bind _=_;rw[Gz ⋯ ⋯,pL,xG,<-bA];exact c
def OP(O:p9 ab g e Qq):rC [aM ab,.im<|aa g,.im<|aa e,.im<|.tup<|Qq.map a4]=Z (.im<|.ax X,[aM ab,.im<|aa g,.im<|aa e,.im<|.tup<|Qq.map a4]):=by
 have dc:=O.dc;have c:cR 1 [0] (cN<|aj 3) (bH 0) dN G.Dl [Z (aM ab),Z<|.im<|aa g,Z<|.im<|aa e,Z<|.im<|.tup<|Qq.map a4,Y,Y]=Z (.lst<|Qq.map λ_=>.ax X,[Z (aM ab),Z<|.im<|aa g,Z<|.im<|aa e,Z<|.im<|.tup<|Qq.map a4,Y,Y]):=by
  refine ju (w:=Qq.map a4) (o:=Y) (QA:=[Z (aM ab),Z<|.im<|aa g,Z<|.im<|aa e,Z<|.im<|.tup<|Qq.map a4,Y,Y]) rfl (iX a4 (λ_=>.ax X) _ (λl a=>?_) ⋯) rfl;exact⟨[Z (.im<|a4 l),Z<|aM ab],_,[Z (.im<|a4 l),Z<|aM ab],rfl,rfl,es (M:=[.aU 1,.aU 0]) rfl rfl rfl (C8 (O.len l a) (O.ne l a) (O.c7 l a)<|O.ch l a) rfl,rfl⟩
 have d:cR 1 [] (cN<|aj 3) (bH 0) dN G.FF [Z (aM ab),Z<|.im<|aa g,Z<|.im<|aa e,Z<|.im<|.tup<|Qq.map a4,Y,Y]=Z (.lst<|Qq.map λl=>.tup [a4 l,.ax X],[Z (aM ab),Z<|.im<|aa g,Z<|.im<|aa e,Z<|.im<|.tup<|Qq.map a4,Y,Y]):=by
  refine ju (w:=Qq.map a4) (o:=Y) (QA:=[Z (aM ab),Z<|.im<|aa g,Z<|.im<|aa e,Z<|.im<|.tup<|Qq.map a4,Y,Y]) rfl (iX a4 (λl=>.tup [a4 l,.ax X]) _ (λl a=>?_) ⋯) rfl;exact⟨[Z (.im<|a4 l)],_,[Z (.im<|a4 l)],rfl,rfl,rfl,rfl⟩
 have ne:eB (.lst<|Qq.map a4) (.lst<|Qq.map a4)=Z (.im<|.ax aq):=by
  show (if (V.ck 8 (Qq.map a4)&&V.ck 8 (Qq.map a4))=X then Z (ai.im<|.ax<|!dW (Qq.map a4) (Qq.map a4)) else Y)=_;rw[C_,aE<|show (X&&X)=X from rfl,vk];rfl
 let⟨L,b⟩:=Co (ab:=ab) (g:=g) (e:=e) (U:=Z (.im<|.tup<|Qq.map a4)) Qq [] Y O.nu (by have:=O.aR;rw[jg];lia);rw[uX]at b;have aR:=O.aR;have aZ:dy [aP (Qq.flatMap hG)]=Z (aD ((Qq.flatMap hG).length:Int)):=by
  show Z (ai.im<|.int (((Qq.flatMap hG).map aa).length:Int))=_;rw[bj]
 unfold rC Eu;refine gV (y:=[Z (aM ab),Z<|.im<|aa g,Z<|.im<|aa e,Z<|.im<|.tup<|Qq.map a4,Z<|aP<|Qq.flatMap hG,L]) rfl ?_ rfl;refine cp (fj (ig (QA:=[Z (aM ab),Z<|.im<|aa g,Z<|.im<|aa e,Z<|.im<|.tup<|Qq.map a4,Y,Y]) rfl<|qB<|ly (bE<|eC (cj (bE c) rfl) rfl<|BW Qq) rfl rfl) rfl) ?_;refine cp (fj (dw<|de (bE<|eC (cj rfl rfl) rfl rfl) (bE<|eC (cj (bE<|eC (cj (bE d) rfl) rfl<|Oo O.up.ao dc) rfl) rfl<|IF O.up dc O.ne) rfl rfl ne) rfl) ?_;refine cp (QA:=[Z (aM ab),Z<|.im<|aa g,Z<|.im<|aa e,Z<|.im<|.tup<|Qq.map a4,Z<|aP [],Y]) rfl (cp (mO (o:=Y) (w:=Qq.map a4) (QA:=[Z (aM ab),Z<|.im<|aa g,Z<|.im<|aa e,Z<|.im<|.tup<|Qq.map a4,Z<|aP [],Y]) rfl b rfl)<|i3<|BH ?_);refine jG (dw (de (bE<|eC (cj rfl rfl) rfl aZ) (bE<|M0 rfl O.ao aR) rfl rfl ((r9 _ _).trans (by rw[dd rfl])))) (jG (dw (eZ ((si _ g).trans (by rw[c0 O.na];rfl)))) (dw (eZ ((si _ e).trans (by rw[c0 O.nb];rfl)))))
def KO(b:ab.length<=200)(c:∀m∈R,m∈ab)(up:lX R)(d:R.length<=1000)(z:g∉R)(B:e∉R)(h:¬ ec (ab.filter λm=>!decide (m∈R)) g e)(O:p9 ab g e Qq)(i:Qq.length=R.length):
  sL [aM ab,.im<|aa g,.im<|aa e,aM R,.im<|.tup<|Qq.map a4]=Z (.im<|.ax X,[aM ab,.im<|aa g,.im<|aa e,aM R,.im<|.tup<|Qq.map a4]):=by
 let⟨A,a,bf⟩:=Fm (ab:=ab) (g:=g) (e:=e) (f:=aM R) (.inr rfl) b;rw[bf.mpr h]at a;have j:=G8 c up d;have k:=OP O;have aZ:dy [.im (.tup<|Qq.map a4)]=Z (aD (Qq.length:Int)):=by
  show Z (ai.im<|.int ((Qq.map a4).length:Int))=_;rw[bj]
 have bh:dy [aM R]=Z (aD (R.length:Int)):=by
  show Z (ai.im<|.int ((R.map aa).length:Int))=_;rw[bj]
 unfold sL CX;refine gV (y:=[Z (aM ab),Z<|.im<|aa g,Z<|.im<|aa e,Z<|aM R,Z<|.im<|.tup<|Qq.map a4]) rfl (cp (fj (ig (qB<|ly (bE<|es (M:=[.aU 0,.aU 3]) rfl rfl rfl j rfl) rfl rfl) (ig (dw (eZ ((zz R g).trans (by rw[c0 z])))) (ig (dw (eZ ((zz R e).trans (by rw[c0 B]))))<|qB<|ly (bE<|es (M:=[.aU 0,.aU 1,.aU 2,.aU 3]) rfl rfl rfl a rfl) rfl rfl))) rfl) (i3 (BH (jG (dw<|es (M:=[.aU 0,.aU 1,.aU 2,.aU 4]) rfl rfl rfl k rfl) (dw (de (bE<|eC (cj rfl rfl) rfl aZ) (bE<|eC (cj rfl rfl) rfl bh) rfl rfl ((r9 _ _).trans (by rw[i,dd rfl]))))))))  rfl
theorem BN{ab:List aN}{g e:aN}{many:Nat}(r:ab.length<=200)(B:many<=100)(u:∀R:List aN,R.length<=many->(∀m∈R,m≠g/\m≠e)->ec (ab.filter λm=>!decide (m∈R)) g e):∀(n:Nat) (R:List aN),R.length<=many->many<n+R.length->(∀m∈R,m≠g/\m≠e)->
  mv n [aM ab,.im<|aa g,.im<|aa e,aP R,aD (many:Int)]=Z (.im<|.ax aq,[aM ab,.im<|aa g,.im<|aa e,aP R,aD (many:Int)])
 |0,R,t,E,_=>⋯
 |n+1,R,t,E,x=>by
  let⟨A,C,bf⟩:=Fm (ab:=ab) (g:=g) (e:=e) (f:=aP R) (.inl rfl) r;have D:A=aq:=by
   cases A with
   |false=>rfl
   |true=>exact absurd (u R t x) (bf.mp rfl)
  subst D;have aZ:dy [aP R]=Z (aD (R.length:Int)):=by
   show Z (ai.im<|.int ((R.map aa).length:Int))=_;rw[bj]
  have start:∀{s:Option (mf×a6)}{b:bP},b [Z (aM ab),Z<|.im<|aa g,Z<|.im<|aa e,Z<|aP R,Z<|aD (many:Int),Y]=s->bC (df (fU<|ag<|bT 4 G.oQ<|ar (aj 0)<|ar (aj 1)<|ar (aj 2)<|ar (aj 3) aF) (c8<|aC<|.ax X) d6) b [Z (aM ab),Z<|.im<|aa g,Z<|.im<|aa e,Z<|aP R,Z<|aD (many:Int),Y]=s:=λc=>
   cp (fj (ly (bE<|es (M:=[.aU 0,.aU 1,.aU 2,.aU 3]) rfl rfl rfl C rfl) rfl rfl) rfl) c;have h:bu (az d7 (aj 4)<|ag<|b9 dy<|ar (aj 3) aF) [Z (aM ab),Z<|.im<|aa g,Z<|.im<|aa e,Z<|aP R,Z<|aD (many:Int),Y]=Z (decide ((many:Int)=(R.length:Int)),[Z (aM ab),Z<|.im<|aa g,Z<|.im<|aa e,Z<|aP R,Z<|aD (many:Int),Y]):=dw (de rfl (bE<|eC (cj rfl rfl) rfl aZ) rfl rfl<|r9 _ _);rw[mv];unfold Dm;by_cases z:(many:Int)=(R.length:Int)
  ·rw[dd z]at h;exact gV (y:=[Z (aM ab),Z<|.im<|aa g,Z<|.im<|aa e,Z<|aP R,Z<|aD (many:Int),Y]) rfl (start<|yD<|m6 h rfl) rfl
  ·rw[c0 z]at h;let⟨QQ,F,L,rfl⟩:=pl (QY:=bH 5) (e:=yE (mv n)) (w:=ab.map aa) (λ_ y=>∃L,y=[Z (aM ab),Z<|.im<|aa g,Z<|.im<|aa e,Z<|aP R,Z<|aD (many:Int),L]) (y:=[Z (aM ab),Z<|.im<|aa g,Z<|.im<|aa e,Z<|aP R,Z<|aD (many:Int),Y]) ⟨Y,rfl⟩ (λa f y d H=>by
    let⟨L,rfl⟩:=H;let⟨m,N,rfl⟩:=cO.mp (fe d);refine⟨[Z (aM ab),Z<|.im<|aa g,Z<|.im<|aa e,Z<|aP R,Z<|aD (many:Int),Z<|.im<|aa m],.bg,[Z (aM ab),Z<|.im<|aa g,Z<|.im<|aa e,Z<|aP R,Z<|aD (many:Int),Z<|.im<|aa m],rfl,?_,.inl rfl,_,rfl⟩;have Q0:bu (az eB (aj 5)<|aj 1) [Z (aM ab),Z<|.im<|aa g,Z<|.im<|aa e,Z<|aP R,Z<|aD (many:Int),Z<|.im<|aa m]=Z (!decide (m=g),[Z (aM ab),Z<|.im<|aa g,Z<|.im<|aa e,Z<|aP R,Z<|aD (many:Int),Z<|.im<|aa m]):=dw (eZ<|nY m g);have Q6:bu (az eB (aj 5)<|aj 2) [Z (aM ab),Z<|.im<|aa g,Z<|.im<|aa e,Z<|aP R,Z<|aD (many:Int),Z<|.im<|aa m]=Z (!decide (m=e),[Z (aM ab),Z<|.im<|aa g,Z<|.im<|aa e,Z<|aP R,Z<|aD (many:Int),Z<|.im<|aa m]):=dw (eZ<|nY m e);have i:∃A,ff (bu<|az d7 (aj 3)<|ag<|eu aF) (bu<|az qC (aj 5)<|ag<|az bD (aj 3)<|ag<|lh<|aC<|.int 1) [Z (aM ab),Z<|.im<|aa g,Z<|.im<|aa e,Z<|aP R,Z<|aD (many:Int),Z<|.im<|aa m]=Z (A,[Z (aM ab),Z<|.im<|aa g,Z<|.im<|aa e,Z<|aP R,Z<|aD (many:Int),Z<|.im<|aa m]):=by
     have j:bu (az d7 (aj 3)<|ag<|eu aF) [Z (aM ab),Z<|.im<|aa g,Z<|.im<|aa e,Z<|aP R,Z<|aD (many:Int),Z<|.im<|aa m]=Z (decide (R=[]),[Z (aM ab),Z<|.im<|aa g,Z<|.im<|aa e,Z<|aP R,Z<|aD (many:Int),Z<|.im<|aa m]):=dw (de rfl (bE rfl) rfl rfl<|Cq R);by_cases l:R=[]
     ·rw[dd l]at j;exact⟨X,Om j⟩
     ·rw[c0 l]at j;let⟨p,v,rfl⟩:=wz l;have I:bD (aP<|p++[v]) (aD<|-1)=Z (.im<|aa v):=by
       show (dj ((p++[v]).map aa)<|-1).map ai.im=_;rw[fb];show (dj (p.map aa++[aa v])<|-1).map ai.im=_;rw[tH (v:=aa v) (wD)];rfl
      exact⟨bF (aa v)<|aa m,ig j<|dw<|de rfl (bE<|de rfl (bE rfl) rfl rfl I) rfl rfl<|show qC (.im<|aa m) (.im<|aa v)=Z (.im<|.ax<|bF (aa v)<|aa m) from rfl⟩
    unfold yE;by_cases k:m=g
    ·rw[dd k]at Q0;exact fj (tY Q0) rfl
    by_cases q:m=e
    ·rw[c0 k]at Q0;rw[dd q]at Q6;exact fj (jG Q0<|tY Q6) rfl
    rw[c0 k]at Q0;rw[c0 q]at Q6;let⟨A,i⟩:=i;cases A with
    |false=>exact fj (jG Q0<|jG Q6 i) rfl
    |true=>
     have ad:eo (aP R) (aP [m])=Z (aP<|R++[m]):=by
      show (if (R.map aa).length+([m].map aa).length<=100000 then Z (ai.lst<|R.map aa++[m].map aa) else Y)=_;rw[aE (by rw[bj,bj,fk];lia),<-fb]
     have J:=BN r B u n (R++[m]) (by rw[dx,fk];lia) (by rw[dx,fk];lia) (λf d=>by
      rcases dG.mp d with d|d
      ·exact x f d
      ·rw[cK.mp d];exact⟨k,q⟩)
     exact m6 (jG Q0<|jG Q6 i) (fj (ly (bE<|es (M:=[.aU 0,.aU 1,.aU 2,.bZ<|aP<|R++[m],.aU 4]) (cj rfl<|cj rfl<|cj rfl<|cj (bE<|de rfl (bE rfl) rfl rfl ad)<|cj rfl rfl) rfl rfl J rfl) rfl rfl) rfl))
   exact gV (y:=[Z (aM ab),Z<|.im<|aa g,Z<|.im<|aa e,Z<|aP R,Z<|aD (many:Int),L]) rfl (start<|cp (fj h rfl)<|cp (mO (o:=Y) (w:=ab.map aa) (QA:=[Z (aM ab),Z<|.im<|aa g,Z<|.im<|aa e,Z<|aP R,Z<|aD (many:Int),Y]) rfl F rfl) rfl) rfl
def ea.rs(QO:ea ab g e C D Qz)(a:(e,aq)∉cA Qz):bI.Rs ab (i2 ab) g e C λm o=>(m,o)∈cA Qz:=
 bI.Rs.of (cO.mpr ⟨_,fe QO.s.hD,rfl⟩) (λh A c d=>QO.s.cl h c A<|Mc d) a
def rA:fK Qz m=X↔bI.Cut (λm o=>(m,o)∈cA Qz) m:=by
 unfold fK bI.Cut;rw[cI,ks,j1,k_]
def ea.bar(QO:ea ab g e C D Qz)(i:(e,aq)∉cA Qz):¬ ec (ab.filter λm=>!decide (m∈ab.filter (fK Qz))) g e:=λc=>by
 have Qu:=QO.rs i;have M:∀f,ec (ab.filter λm=>!decide (m∈ab.filter (fK Qz))) g f->(f,X)∈cA Qz:=λf c=>by
  induction c with
  |self=>exact Qu.start
  |@step H f _ j k a=>
   let⟨b,d⟩:=hS.mp j;rw[ks,k_]at d;have l:=Qu.next H f a ⟨QO.s.inf _ a,b,k⟩;exact k7 λn=>d (hS.mpr ⟨b,rA.mpr ⟨l,n⟩⟩)
 exact Qu.u1 (Qu.c7 _<|M e c)
def ea.many(QO:ea ab g e C D Qz)(ao:ab.Nodup)(a:(e,aq)∉cA Qz):(ab.filter<|fK Qz).length=D.length:=QO.w.many (QO.rs a) ao λm W=>rA
def ea.Ir(QO:ea ab g e C D Qz)(a:(e,aq)∉cA Qz):g∉ab.filter (fK Qz)/\e∉ab.filter (fK Qz):=by
 have Qu:=QO.rs a;exact⟨λc=>(rA.mp (hS.mp c).2).2 Qu.start,λc=>Qu.u1 (rA.mp (hS.mp c).2).1⟩
def ea.free(QO:ea ab g e C D Qz)(r:e∈ab){R:List aN}(A:R.length<D.length)(j:∀m∈R,m≠g/\m≠e):ec (ab.filter λm=>!decide (m∈R)) g e:=by
 have q:∀{f},f∈ab->f∉R->f∈ab.filter λm=>!decide (m∈R):=λt E=>hS.mpr ⟨t,by rw[c0 E];rfl⟩;obtain⟨x,b,s⟩:∃x∈D,∀m∈R,m∉bI.c7 C x (ee C g x):=by
  refine k7 λu=>?_;have h:∀x,∃m,x∈D->m∈R/\m∈bI.c7 C x (ee C g x):=λx=>by
   by_cases b:x∈D
   ·refine k7 λH=>u ⟨x,b,λm t E=>H ⟨m,λ_=>⟨t,E⟩⟩⟩
   ·exact⟨g,λc=>absurd c b⟩
  have k:∀x,x∈D->(h x).choose∈R/\(h x).choose∈bI.c7 C x (ee C g x):=λx=>(h x).choose_spec;have v:(D.map λx=>(h x).choose).Nodup:=m8 (λf n H o d=>QO.w.apart n o (QO.i8 n) (QO.i8 o) (k f n).2 (by rw[show (h f).choose=(h H).choose from d];exact (k H o).2)) QO.w.ao;have:=v.length_le_of_subset (l₂:=R) λm j=>by
   let⟨x,b,rfl⟩:=cO.mp j;exact (k x b).1
  rw[bj]at this;lia
 have P:=QO.i8 b;have M:∀i a,a+i=ee C g x+1->ec (ab.filter λm=>!decide (m∈R)) g (bI.it C a x):=λi=>by
  induction i with
  |zero=>
   intro a S;have:a=ee C g x+1:=⋯
   rw[this,P.1];exact .self
  |succ i y=>
   intro a S;have N:=QO.w.steps P (a:=a) ⋯;have z:bI.it C a x∈bI.c7 C x (ee C g x):=bI.pT.mpr ⟨a,⋯,rfl⟩;exact .step (y (a+1) ⋯) (q N.2.1 λp=>s _ p z) N.2.2
 exact .step (M (ee C g x+1) 0 ⋯) (q r λp=>(j e p).2 rfl) ((QO.w.last x b).2.1).2.2
theorem CS{QT Rk:Type}(L:QT->List Rk):∀D:List QT,(D.flatMap λx=>(L x).reverse).Perm (D.flatMap L)
 |[]=>List.Perm.refl _
 |x::D=>by
  rw[pL,pL];exact (List.reverse_perm _).append (CS L D)
def N3(f H:aN)(s:dJ):nd (f::H::s)=(decide (H∈c2 f)&&nd (H::s)):=rfl
def ea.Ic(QO:ea ab g e C D Qz)(q:ab.length<=200)(n:g∈ab)(o:e∈ab){Qq:List dJ}(T:Qq.Perm (D.map<|hI C g e))(up:mD Qq):p9 ab g e Qq:=by
 have dc:=QO.dc;have i:∀l∈Qq,∃x∈D,l=hI C g e x:=λl h=>by
  let⟨x,c,d⟩:=cO.mp (T.mem_iff.mp h);exact⟨x,c,d.symm⟩
 have j:(Qq.flatMap hG).Perm (D.flatMap λx=>bI.c7 C x<|ee C g x):=by
  refine (T.flatMap_right hG).trans ?_;rw[List.flatMap_map];refine List.Perm.trans (Cc ?_) (CS (λx=>bI.c7 C x<|ee C g x) D);congr 1;funext x;exact xG g e _
 have ao:=QO.w.Gb (r:=ee C g) λx f=>QO.i8 f;have sub:∀m∈D.flatMap λx=>bI.c7 C x<|ee C g x,m∈ab/\m≠g/\m≠e:=λm b=>by
  let⟨x,f,c⟩:=yT.mp b;exact QO.w.Cp (QO.i8 f) c
 have aR:=ao.length_le_of_subset (l₂:=ab) λm b=>(sub m b).1;refine⟨up,by rw[T.length_eq,bj];lia,λl h=>?_,λl h m b=>?_,λl h=>?_,λl h=>?_,j.nodup_iff.mpr ao,by rw[j.length_eq];lia,λc=>(sub g<|j.mem_iff.mp c).2.1 rfl,λc=>(sub e<|j.mem_iff.mp c).2.2 rfl⟩
 ·let⟨x,f,rfl⟩:=i l h;have:=QO.AS f;unfold hI bI.c7;rw[ey,dx,rJ,bj,hq,fk];lia
 ·let⟨x,f,rfl⟩:=i l h;unfold hI at b;rcases cu.mp b with rfl|b
  ·exact n
  ·rcases dG.mp b with b|b
   ·exact (QO.w.Cp (QO.i8 f)<|List.mem_reverse.mp b).1
   ·rw[cK.mp b];exact o
 ·let⟨x,f,rfl⟩:=i l h;have P:=QO.i8 f;have M:∀k,k<=ee C g x+1->nd (bI.it C k x::(((range k).map λa=>bI.it C a x).reverse++[e]))=X:=λk=>by
   induction k with
   |zero=>
    intro W;show (decide (e∈c2 x)&&X)=X;rw[dd (QO.w.last x f).2.1.2.2];rfl
   |succ k p=>
    intro c;rw[yz,fb,E2];show nd (bI.it C (k+1) x::bI.it C k x::(((range k).map λa=>bI.it C a x).reverse++[e]))=X;rw[N3,p ⋯,dd (QO.w.steps P (a:=k) ⋯).2.2];rfl
  have:=M (ee C g x+1) (a5 _);rw[P.1]at this;exact this
 ·let⟨x,f,rfl⟩:=i l h;exact⟨_,rfl⟩
def ec.trans{a:aN}(c:ec ab f H)(n:ec ab H a):ec ab f a:=by
 induction n with
 |self=>exact c
 |step _ t E b=>exact .step b t E
def ec.c7(a:f∈ab)(c:ec ab f H):H∈ab:=by
 cases c with
 |self=>exact a
 |step _ t _=>exact t
theorem La(c:H∈c2 f):f∈c2 H:=(Cn (ab:=[f,H]) ⟨.head _,.tail _<|.head _,c⟩).2.2
def ec.sym(a:f∈ab)(c:ec ab f H):ec ab H f:=by
 induction c with
 |self=>exact .self
 |step b t E d=>exact (ec.step .self (ec.c7 a b)<|La E).trans d
def HF{h:aN}(c:∀f,f∈ab↔ec R h f){g e:aN}(a:g∈ab)(b:e∈ab):ec ab g e:=by
 have M:∀f,ec R h f->ec ab h f:=λf d=>by
  induction d with
  |self=>exact .self
  |step i t E j=>exact .step j ((c _).mpr<|.step i t E) E
 have Qx:h∈ab:=(c h).mpr .self;exact (ec.sym Qx<|M g<|(c g).mp a).trans (M e<|(c e).mp b)
def Lx(ab:List aN):(ab.filter λm=>!decide (m∈([]:List aN)))=ab:=D7.mpr λ_ W=>rfl
theorem Bj:∀QF:dJ,V.ck 6 (QF.map aa)=X
 |[]=>rfl
 |m::QF=>by rw[cH,V.ck,Bj QF];rfl
theorem Fp:∀Qq:List dJ,V.ck 6 (Qq.map a4)=X
 |[]=>rfl
 |l::Qq=>by
  rw[cH,V.ck,Fp Qq];show (V.ck 5 (l.map aa)&&X)=X;rw[sY];rfl
def OW(R:List aN)(Qq:List dJ):eB (.im<|.tup [.tup (R.map aa),.tup<|Qq.map a4]) (.im<|.tup [.tup (R.map aa),.tup<|Qq.map a4])=Z (.im<|.ax aq):=by
 have c:V.bo 8 (.tup [.tup (R.map aa),.tup<|Qq.map a4])=X:=by
  show (V.ck 6 (R.map aa)&&(V.ck 6 (Qq.map a4)&&X))=X;rw[Bj,Fp];rfl
 have d:cf (.tup [.tup (R.map aa),.tup<|Qq.map a4]) (.tup [.tup (R.map aa),.tup<|Qq.map a4])=X:=by
  show (dW (R.map aa) (R.map aa)&&(dW (Qq.map a4) (Qq.map a4)&&X))=X;rw[rI,vk];rfl
 show (if (V.bo 8 (.tup [.tup (R.map aa),.tup<|Qq.map a4])&&V.bo 8 (.tup [.tup (R.map aa),.tup<|Qq.map a4]))=X then Z (ai.im<|.ax<|!cf (.tup [.tup (R.map aa),.tup<|Qq.map a4]) (.tup [.tup (R.map aa),.tup<|Qq.map a4])) else Y)=_;rw[c,aE<|show (X&&X)=X from rfl,d];rfl
abbrev kI(QM:List Int)(n:Int)(c:ai)(ab:List aN)(Q7 L I P:Option ai):a6:=[Z (.cS<|QM.map .int),Z<|aD n,Z c,Z<|aM ab,Q7,L,I,P]
def Ow{QM:List Int}{n:Int}{Rd Q7 L I P:Option ai}(F:0<=n)(db:n<4):∃Q4 H Rf J Q S al am,tk [Z (.cS<|QM.map .int),Z<|aD n,Rd,U,Q7,L,I,P]=Z (.bg,Q4)/\Q4=[Z (.cS<|QM.map .int),H,Rf,J,Q,S,al,am]:=by
 let⟨c,an,j⟩:=JH (QM:=QM) F ⋯;let⟨t,ap,as,QB,a1,ds,W⟩:=I_ (r:=2) (k:=14) ⋯ ⋯ (j.mono ⋯);obtain⟨h,s,rfl⟩:∃h s,ap=h::s:=List.exists_cons_of_ne_nil a1;let⟨ab,a2,up,x,bd,ao⟩:=EU (f:=aM ((h::s).take 14)) (R:=(h::s).take 14) (e:=h) (.inr rfl) (by rw[fG];lia);have aR:ab.length<=15:=by rw[fG]at bd;lia
 have be:ab≠[]:=uW ((x h).mpr .self);let⟨E,QN,vD⟩:=N8 (r:=0) (ab:=ab) QB ⋯ be;let⟨bi,rfl⟩:=j.lst;let⟨i,rfl⟩:=QB.lst;let⟨a,rfl⟩:=QN.lst;have cut:fm ((h::s).map aa) Y (Z 14)=((h::s).take 14).map aa:=by
  rw[sr,show (14:Int)=((14:Nat):Int) from rfl,L8]
 have bm:nt (aM (h::s)) Y (Z 14)=Z (aM<|(h::s).take 14):=by
  show Z (ai.im<|.tup<|fm ((h::s).map aa) Y<|Z 14)=_;rw[cut]
 have bn:bD (aM (h::s)) (aD 0)=Z (.im<|aa h):=by
  show (dj ((h::s).map aa) 0).map ai.im=_;rw[uz (jJ 0) (v:=aa h) rfl];rfl
 have N:∀{b:bP}{Qu:Option (mf×a6)},b [Z (.cS<|QM.map .int),Z<|aD n,Z<|.lst i,Z<|aM ab,Q7,L,I,P]=Qu->bC (bV 2<|bT 2 G.o3<|ar (aj 0)<|ar (aj 1) aF) (bC (bV 3<|bT 2 G.pk<|ar (aj 2)<|ar (ag<|aC<|.int 14) aF)<|bC (bV 3<|bT 2 G.kG<|ar (ag<|j4 (aj 3) lJ<|kr<|aC<|.int 14)<|ar (ag<|az bD (aj 3)<|ag<|aC<|.int 0) aF) b) [Z (.cS<|QM.map .int),Z<|aD n,Rd,U,Q7,L,I,P]=Qu:=λbs=>
  cp (QA:=[Z (.cS<|QM.map .int),Z<|aD n,Z<|.lst bi,U,Q7,L,I,P]) (kx (es (M:=[.aU 0,.aU 1]) rfl rfl rfl an rfl) (gB rfl) rfl) (cp (QA:=[Z (.cS<|QM.map .int),Z<|aD n,Z<|.lst i,Z<|aM (h::s),Q7,L,I,P]) (kx (es (M:=[.aU 2,.bZ<|aD 14]) rfl rfl rfl as rfl) (gB rfl) rfl)<|cp (QA:=[Z (.cS<|QM.map .int),Z<|aD n,Z<|.lst i,Z<|aM ab,Q7,L,I,P]) (kK (es (M:=[.bZ (aM<|(h::s).take 14),.bZ<|.im<|aa h]) (cj (bE<|wG rfl rfl rfl rfl bm)<|cj (bE<|eZ bn) rfl) rfl rfl a2 rfl) (gB rfl) rfl) bs);unfold tk;rcases vD with l|⟨g,e,o,d,bv,B,l⟩
 ·refine⟨_,_,_,_,_,_,_,_,N<|cp (QA:=kI QM n (.lst a) ab (Z<|.im .aT) L I P) (kx (es (M:=[.aU 2,.aU 3]) rfl rfl rfl l rfl) (gB rfl) rfl)<|fj (QA:=kI QM n (.lst a) ab (Z<|.im .aT) L I P) rfl rfl,rfl⟩
 ·let⟨C,D,Qz,Qq,y,QO,p,T,ca⟩:=Oc ao ⋯ o d bv B;have cd:=HF x o d;have dc:=QO.dc;have ce:=QO.many ao p;have q:=QO.bar p;have A:=QO.Ir p;have ch:lX (ab.filter<|fK Qz):=PL _ up;have O:=QO.Ic ⋯ o d T ca;have ci:Qq.length=(ab.filter<|fK Qz).length:=by rw[T.length_eq,bj,ce]
  have cl:=KO (Qq:=Qq) ⋯ (λm u=>(hS.mp u).1) ch ⋯ A.1 A.2 q O ci;have dL:1<=(ab.filter<|fK Qz).length:=by
   rcases vd (ab.filter<|fK Qz).length with z|z
   ·have co:=y0.mp z;rw[co,Lx]at q;exact absurd cd q
   ·exact z
  generalize eq:ab.filter (fK Qz)=R at *;have cr:=BN (ab:=ab) (g:=g) (e:=e) (many:=R.length-1) ⋯ ⋯ (λw t E=>QO.free d ⋯ E) 6 [] (fo _) (by rw[jg];lia) (λm u=>nomatch u);have cs:dy [aM R]=Z (aD (R.length:Int)):=by
   show Z (ai.im<|.int ((R.map aa).length:Int))=_;rw[bj]
  have cn:mL (aD (R.length:Int)) (aD 1)=Z (aD ((R.length-1:Nat):Int)):=by
   show Z (ai.im<|.int<|(R.length:Int)-1)=_;rw[show ((R.length:Int)-1)=((R.length-1:Nat):Int) by lia]
  refine⟨kI QM n (.lst a) ab (Z<|.im<|.tup [aa g,aa e]) (Z<|.im<|.tup [.tup (R.map aa),.tup<|Qq.map a4]) (Z<|aM R)<|Z<|.im<|.tup<|Qq.map a4,_,_,_,_,_,_,_,N<|cp (QA:=kI QM n (.lst a) ab (Z<|.im<|.tup [aa g,aa e]) L I P) (kx (es (M:=[.aU 2,.aU 3]) rfl rfl rfl l rfl) (gB rfl) rfl)<|m6 (QA:=kI QM n (.lst a) ab (Z<|.im<|.tup [aa g,aa e]) L I P) rfl ?_,rfl⟩;refine cp (QA:=kI QM n (.lst a) ab (Z<|.im<|.tup [aa g,aa e]) (Z<|.im<|.tup [.tup (R.map aa),.tup<|Qq.map a4]) I P) (kx (es (M:=[.aU 3,.bZ<|.im<|aa g,.bZ<|.im<|aa e]) rfl rfl rfl y rfl) (gB rfl) rfl) ?_;refine cp (fj (QA:=kI QM n (.lst a) ab (Z<|.im<|.tup [aa g,aa e]) (Z<|.im<|.tup [.tup (R.map aa),.tup<|Qq.map a4]) I P) rfl rfl) ?_;refine cp (QA:=kI QM n (.lst a) ab (Z<|.im<|.tup [aa g,aa e]) (Z<|.im<|.tup [.tup (R.map aa),.tup<|Qq.map a4]) (Z<|aM R) (Z<|.im<|.tup<|Qq.map a4)) rfl ?_;refine cp (fj (ig (QA:=kI QM n (.lst a) ab (Z<|.im<|.tup [aa g,aa e]) (Z<|.im<|.tup [.tup (R.map aa),.tup<|Qq.map a4]) (Z<|aM R) (Z<|.im<|.tup<|Qq.map a4)) (qB<|ly (bE<|es (M:=[.aU 3,.bZ<|.im<|aa g,.bZ<|.im<|aa e,.aU 6,.aU 7]) rfl rfl rfl cl rfl) rfl rfl)<|dw<|de (bE<|es (M:=[.aU 3,.bZ<|.im<|aa g,.bZ<|.im<|aa e]) rfl rfl rfl y rfl) rfl rfl rfl<|OW R Qq) rfl) ?_;exact fj (ly (bE<|es (M:=[.aU 3,.bZ<|.im<|aa g,.bZ<|.im<|aa e,.bZ<|aP [],.bZ<|aD ((R.length-1:Nat):Int)]) (cj rfl<|cj (bE rfl)<|cj (bE rfl)<|cj (bE rfl)<|cj (bE<|de (bE<|eC (cj rfl rfl) rfl cs) rfl rfl rfl cn) rfl) rfl rfl cr rfl) rfl rfl) rfl
def G6(QM:List Int)(h:QM.length<100000):∃G,n9 [.cS (QM.map .int)]=Z (.im<|.ax X,G):=by
 let⟨QQ,c,Q5,Rd,U,Q7,L,I,P,rfl⟩:=pl (QY:=bH 1) (e:=tk) (w:=fZ 0 4) (λa y=>∃Q5 Rd U Q7 L I P,y=[Z (.cS<|QM.map .int),Q5,Rd,U,Q7,L,I,P]) (y:=[Z (.cS<|QM.map .int),Y,Y,Y,Y,Y,Y,Y]) ⟨Y,Y,Y,Y,Y,Y,Y,rfl⟩
  (λa f y b g=>by
   let⟨Q5,Rd,U,Q7,L,I,P,rfl⟩:=g;obtain⟨S,rfl⟩:a<4/\f=.int (0+(a:Int)):=by
    match a,b with
    |0,b=>exact⟨by decide,(Option.some.inj b).symm⟩
    |1,b=>exact⟨by decide,(Option.some.inj b).symm⟩
    |2,b=>exact⟨by decide,(Option.some.inj b).symm⟩
    |3,b=>exact⟨by decide,(Option.some.inj b).symm⟩
    |r+4,b=>cases b
   let⟨Q4,i,Rf,j,k,l,m,p,d,rfl⟩:=Ow (QM:=QM) (n:=0+(a:Int)) (Rd:=Rd) (U:=U) (Q7:=Q7) (L:=L) (I:=I) (P:=P) ⋯ ⋯;exact⟨[Z (.cS<|QM.map .int),Z<|aD<|0+(a:Int),Rd,U,Q7,L,I,P],.bg,_,rfl,d,.inl rfl,_,_,_,_,_,_,_,rfl⟩)
 refine⟨[.cS (QM.map .int)],?_⟩;unfold n9 yY;exact gV (y:=[Z (.cS<|QM.map .int),Q5,Rd,U,Q7,L,I,P]) rfl (cp (mO (o:=Y) (w:=fZ 0 4) (QA:=[Z (.cS<|QM.map .int),Y,Y,Y,Y,Y,Y,Y]) rfl c rfl) rfl) rfl
end G
namespace L2
end L2
set_option maxHeartbeats 4000000
namespace K32
open L2 PyProof.Rows
variable{x:PySem.W.OpenLaw}{C:ak}{m:e_}{n:Nat}{O:bl}
def d9(a:Nat):cF:=(PySem.Challenge.pw_mowfloor_k32_bars_of_small_floors.main.body.getD a (.Pass ⟨0,0,0,0⟩))
structure fy(aI:aB->Option ae):Prop where
 uD:aI "all" = Y
 FZ:aI "bool" = Y
 r2:aI "dict" = Y
 E5:aI "int" = Y
 nz:aI "isinstance" = Y
 gp:aI "len" = Y
 xp:aI "list" = Y
 NP:aI "max" = Y
 MB:aI "min" = Y
 qv:aI "range" = Y
 OV:aI "reversed" = Y
 Mr:aI "set" = Y
 uy:aI "sorted" = Y
 jZ:aI "tuple" = Y
 JO:aI "zip" = Y
 mX:∃A,aI "IN" = Z (.str "in" A)
 ts:∃A,aI "OUT" = Z (.str "out" A)
def tM:ez "all" = Z (.builtin "all"):=by decide +kernel
def LM:ez "bool" = Z (.type "bool"):=by decide +kernel
def sI:ez "dict" = Z (.type "dict"):=by decide +kernel
def C9:ez "int" = Z (.type "int"):=by decide +kernel
def m2:ez "isinstance" = Z (.builtin "isinstance"):=by decide +kernel
def gy:ez "len" = Z (.builtin "len"):=by decide +kernel
def xS:ez "list" = Z (.type "list"):=by decide +kernel
def Gx:ez "max" = Z (.builtin "max"):=by decide +kernel
def F7:ez "min" = Z (.builtin "min"):=by decide +kernel
def sl:ez "sorted" = Z (.builtin "sorted"):=by decide +kernel
def kP:ez "tuple" = Z (.type "tuple"):=by decide +kernel
def cg(a:eD n O):O.units+20<bK:=by have:=a.un;omega
def qj(a:eD n O):O.units+30<bK:=by have:=a.un;omega
abbrev wA:cF:=d9 1
abbrev Lz:List aB:=["cell","row","column"]
abbrev rR:cF:=d9 8
abbrev FI:List aB:=["ahead","spot","cell"]
abbrev vC:cF:=d9 9
abbrev K8:List aB:=["ahead","a","start","came","layer","behind","spot","further"]
abbrev vV:cF:=d9 10
abbrev GI:List aB:=["ahead","came","last","spot"]
abbrev ys:cF:=d9 11
abbrev LW:List aB:=["ahead","a","last","way"]
abbrev rn:cF:=d9 12
abbrev w7:List aB:=["field","a","b","ahead","lasts","came","cells","ways"]
abbrev vF:cF:=d9 14
abbrev Og:List aB:=["_law_script","_law_turn","_law_seed","_law_cell","_law_bound"]
abbrev x_:cF:=d9 15
abbrev My:List aB:=["_law_left_here","_law_many","_law_digit","_law_mixed"]
abbrev xE:cF:=d9 16
abbrev Mp:List aB:=["_law_cell"]
abbrev ye:cF:=d9 17
abbrev OJ:List aB:=["_law_some","_law_begin","_law_there","_law_met","_law_waiting","_law_other"]
abbrev xD:cF:=d9 18
abbrev I4:List aB:=["_law_left_here","_law_most","_law_cells","_law_k","_law_other"]
abbrev pI:cF:=d9 19
abbrev x5:List aB:=["_law_left_here","_law_most","_law_way","_law_wide","_law_high","_law_cells","_law_k","_law_part_here","_law_row","_law_column"]
abbrev yt:cF:=d9 20
abbrev NU:List aB:=["_law_field_here","_law_thing","_law_cell"]
abbrev r8:cF:=d9 21
abbrev DS:List aB:=["_law_left_here","_law_field_here","_law_a","_law_some"]
abbrev uo:cF:=d9 22
abbrev ze:List aB:=["_law_field_here","_law_a","_law_b","_law_cells"]
abbrev u7:cF:=d9 23
abbrev Pb:List aB:=["_law_field_here","_law_thing"]
abbrev xl:cF:=d9 24
abbrev O_:List aB:=["_law_field_here","_law_a","_law_b","_law_ways","_law_within","_law_way"]
abbrev uI:cF:=d9 25
abbrev J3:List aB:=["_law_field_here","_law_a","_law_b","_law_cells","_law_ways"]
abbrev ud:cF:=d9 26
abbrev PR:List aB:=["_law_field_here","_law_a","_law_b","_law_some","_law_many","_law_cell"]
abbrev wQ:cF:=d9 27
abbrev MV:List aB:=["_law_script","_law_turn","_law_left_here","_law_field_here","_law_two","_law_found","_law_cells","_law_ways"]
section
variable{Qr:bz}{l:bc}{Qw:Φ}{aI:aB->Option ae}{QH:aV}
abbrev v_(m:e_)(C:ak):Prop:=fC m 1 "around" wA C ["cell"] 1 G.o2
def Gw(P:eg m.K m.aI "around" wA C ["cell"])(Qq:fy m.aI):v_ m C:=by
 refine fQ Lz P λao R O Rg h j Qt a=>?_;exact (bO (dF 1 ao<|jA a (au 0) a9) (bO (dF 2 ao<|jA a (au 0) a9) (b3 (dt (f5 (by exact (g0 (gX (by exact (ct (cY qT (au 1) a9)<|au 2))) (by exact (hM (gX (by exact (ct (au 1)<|cY qT (au 2) a9))) (gX (by exact (ct (au 1)<|cY f3 (au 2) a9))) (gX (by exact (ct (cY f3 (au 1) a9)<|au 2))))))))))))
abbrev FO(m:e_)(C:ak):Prop:=fC m 2 "onward" rR C ["ahead","spot"] 2 G.n1
def Mo(P:eg m.K m.aI "onward" rR C ["ahead","spot"])(Qq:fy m.aI){c:ak}(d:v_ m c):FO m C:=by
 refine fQ FI P λao R O Rg h j Qt a=>?_;exact (bO (dF 2 ao<|jA a (au 1) a9) (bO (el (cX (hN<|cg a) (cL a (au 1) a9) (aY<|jk rfl Qq.mX.choose_spec)<|dK _) (b3 (dt (f5 (by exact (bX (gX (by exact (ct (cL a (au 0)<|au 2)<|aY<|jk rfl Qq.ts.choose_spec)))))))) eI) (b3 (dt (hL f3 (aY (f5 (by exact (bX (gX (by exact (ct (au 2)<|aY<|jk rfl Qq.mX.choose_spec))))))) (aY (xJ (own:=["beside"]) (QW:=[0]) rfl (mi (dB rR) FI (by decide +kernel)) ∅ (fD<|aY<|c9 d a<|bX<|au 2) (λb=>(gi 0)) (λb=>(qq<|cX (lS<|cg a) (au 0) (au 1) rfl)) (λb=>(i5 (by exact (ct (au 0)<|aY<|jk rfl Qq.mX.choose_spec)))))))))))
abbrev BO(m:e_)(C:ak):Prop:=fC m 3 "search" vC C ["ahead","a"] 2 G.pH
def K9(P:eg m.K m.aI "search" vC C ["ahead","a"])(Qq:fy m.aI){b:ak}(c:FO m b):BO m C:=by
 refine fQ K8 P λao R O Rg h j Qt a=>?_;exact (bO (dF 2 ao (i5 (by exact (ct (au 1)<|aY<|jk rfl Qq.ts.choose_spec)))) (bO (dF 3 ao<|Bb (cg a) (hr<|ef 2) ti) (bO (dF 4 ao (f5 (by exact (bX<|au 2)))) (bO (qL 1000000 hn (g5<|au 4) (bO (dF 5 ao (f5 (by exact lL))) (bO (j2 (Ri:=[4,0,1]) hn rfl (fD<|au 4) (iO 6 ao) (b3 (j2 (Ri:=[4,0,1]) hn rfl (fD<|aY<|c9 c a<|ct (au 0)<|au 6) (iO 7 ao) (b3<|el (cX (jH<|cg a) (au 7) (au 3) rfl) (bO (l4 (hr<|ef 6)<|nJ (ef 3) (hr<|ef 7)<|xm<|cg a)<|b3<|m3<|n0 mW mF ry qb px (ef 5)<|bX<|au 7) eI) ∅ u5)) ∅ (tm ∅))<|b3<|dF 4 ao<|hr<|ef 5)))<|b3<|dt<|hr<|ef 3))))
abbrev Dw(m:e_)(C:ak):Prop:=fC m 1 "lay_way" vV C ["ahead","came","last"] 3 G.qZ
def OD(P:eg m.K m.aI "lay_way" vV C ["ahead","came","last"])(Qq:fy m.aI):Dw m C:=by
 refine fQ GI P λao R O Rg h j Qt a=>?_;exact (bO (dF 3 ao (i5 (by exact (ct (au 2)<|aY<|jk rfl Qq.ts.choose_spec))))<|b3<|qL 1000000 hn (cX Eb (cL a (au 1)<|au 3) (aY ti)<|dK _)<|bO (el (cX (hN<|cg a) (cL a (au 3) a9) (aY<|jk rfl Qq.mX.choose_spec)<|dK _) (b3<|l4 (jA a (cL a (au 1)<|au 3) a9)<|nJ (ef 0) (jA a (au 3) a9)<|xm<|cg a) eI)<|b3<|dF 3 ao<|jA a (au 1)<|au 3)
abbrev EI(m:e_)(C:ak):Prop:=fC m 1 "way_back" ys C ["ahead","a","last"] 3 G.pb
def O5(P:eg m.K m.aI "way_back" ys C ["ahead","a","last"])(Qq:fy m.aI):EI m C:=by
 refine fQ LW P λao R O Rg h j Qt a=>?_;exact (bO (dF 3 ao (f5 (by exact (bX<|au 2))))<|bO (qL 1000000 hn (cX (jm<|cg a) (cL a (au 3)<|aY<|o4 hc) (au 1)<|dK _)<|b3<|m3<|n0 mW mF ry qb px (ef 3)<|bX<|cL a (au 0)<|cL a (au 3)<|aY<|o4 hc)<|b3<|dt<|hr<|ef 3)
abbrev y8(m:e_)(C:ak):Prop:=fC m 4 "barred" rn C ["field","a","b"] 3 G.qx
def GX(P:eg m.K m.aI "barred" rn C ["field","a","b"])(Qq:fy m.aI){e:ak}(f:v_ m e){g:ak}(d:BO m g){i:ak}(aN:Dw m i){k:ak}(l:EI m k):y8 m C:=by
 refine fQ w7 P λao R O Rg h j Qt b=>?_;exact (bO (el (eR.gO<|g4 (cX (hN<|cg b) (au 1) (au 2)<|dK _)<|jB<|cX (lS<|cg b) (au 2) (aY<|c9 f b<|bX<|au 1) rfl) (b3 KD) eI) (bO (nT (a:=3) ao rfl (Or.inr rfl) (iH (sX rfl<|qj b) rfl Qq.r2 sI (bX (aY (j8 ["cell"] [] (fD<|au 0) (λc=>(gi 0)) (λc=>(i5 (by exact (ct (au 0)<|au 0)))))))) ∅) (bO (dF 4 ao (f5 (by exact lL))) (bO (nT (a:=5) ao rfl (Or.inr rfl) (c9 d b<|ct (au 3)<|au 1) ∅) (bO (qL 1000000 hn (cX (lS<|cg b) (gX (by exact (ct (au 2)<|aY<|jk rfl Qq.mX.choose_spec))) (au 5) rfl) (bO (m3 (n0 mW mF ry qb px (ef 4) (bX (cL b (cL b (au 5) (gX (by exact (ct (au 2)<|aY<|jk rfl Qq.mX.choose_spec)))) a9)))) (bO (m3<|c9 aN b<|hM (au 3) (au 5)<|cL b (au 4)<|aY<|o4 hc) (b3 (nT (a:=5) ao rfl (Or.inr rfl) (c9 d b<|ct (au 3)<|au 1) ∅))))) (bO (ph (a:=6) (own:=["cell"]) (QW:=[5]) ao rfl (Or.inl rfl) rfl (mi (dB rn) w7 (by decide +kernel)) ∅ (fD<|au 0) (λc=>(gi 0)) (λc=>(qq (eR.gO (mV (cX (lS<|cg b) (gX (by exact (ct (au 0)<|aY<|jk rfl Qq.mX.choose_spec))) (au 1) rfl) (qQ (cX (jH<|cg b) (gX (by exact (ct (au 0)<|aY<|jk rfl Qq.ts.choose_spec))) (au 1) rfl)))))) (λc=>(hr<|ef 0)) ∅) (bO (ph (a:=7) (own:=["last"]) (QW:=[2,3,1]) ao rfl (Or.inl rfl) rfl (mi (dB rn) w7 (by decide +kernel)) ∅ (fD<|au 4) (λc=>(gi 0)) (λc=>va) (λc=>(PO rfl Qq.jZ rfl Qq.OV (bX (cY f3 (aY (f5 (by exact (bX<|au 1))))<|aY<|c9 l b<|hM (au 2) (au 3)<|au 0)))) ∅) (b3 (dt (i5 (by exact (ct (aY<|iH sW rfl Qq.jZ kP<|bX<|au 6)<|aY<|iH sW rfl Qq.jZ kP<|bX<|aY<|ek (sz rfl<|cg b) Qq.uy sl<|bX<|au 7))))))))))))
abbrev DM(m:e_)(C:ak):Prop:=fC m 1 "_law_left" vF C ["_law_script","_law_turn"] 2 G.o3
def MT(P:eg m.K m.aI "_law_left" vF C ["_law_script","_law_turn"])(Qq:fy m.aI):DM m C:=by
 refine fQ Og P λao R O Rg h j Qt a=>?_;exact (bO (dF 2 ao<|hL f3 a9<|cY jE a9<|au 1) (bO (j2 (Ri:=[0,1]) hn rfl (fD<|aY<|uF (au 0) vS<|qX hc) (iO 3 ao) (b3<|dF 2 ao<|hL ia (cY f3 (cY f3 (cY jE (au 2) a9)<|cY ia (au 3) a9) a9) a9) ∅ u5) (bO (dF 3 ao<|Ll (cX vj (aY<|ek gG Qq.gp gy<|bX<|au 0) a9<|dK _) (jA a (au 0)<|cY ia (au 1)<|aY<|ek gG Qq.gp gy<|bX<|au 0) hc) (bO (dF 4 ao<|hL jE (cY jE (cY tR a9 a9)<|cY tR a9 a9)<|cY tR a9 a9) (b3 (dt (f5 (by exact (hM (cY jE (cY ia (au 3)<|au 4)<|aY<|iH MY rfl Qq.E5 C9<|bX<|aY<|lH Jd (au 3) (cY tR a9 a9)<|dK _) (au 2) a9)))))))))
abbrev t9(m:e_)(C:ak):Prop:=fC m 1 "_law_pick" x_ C ["_law_left_here","_law_many"] 2 G.fA
def NZ(P:eg m.K m.aI "_law_pick" x_ C ["_law_left_here","_law_many"])(Qq:fy m.aI):t9 m C:=by
 refine fQ My P λao R O Rg h j Qt a=>?_;exact (bO (el (cX vj (cL a (au 0) a9) a9<|dK _) (bO (dF 2 ao<|hL ia (cL a (au 0) a9)<|au 1)<|bO (l4 (hL p1 (cL a (au 0) a9)<|au 1)<|nJ (ef 0) hc<|yx<|cg a)<|b3<|dt<|hr<|ef 2) eI)<|bO (l4 (hL f3 (cL a (au 0) a9) a9)<|nJ (ef 0) hc<|yx<|cg a)<|bO (dF 3 ao<|hL ia (cY jE (cY f3 (cL a (au 0) a9)<|cY jE (cL a (au 0) a9) a9) a9) a9)<|bO (l4 (hL ia (cY jE (au 3)<|cY f3 (cY ia (au 3) a9) a9) a9)<|nJ (ef 0) hc<|yx<|cg a)<|b3<|dt<|hL ia (cY p1 (cL a (au 0) a9) a9)<|au 1)
abbrev qy(m:e_)(C:ak):Prop:=fC m 1 "_law_beside" xE C ["_law_cell"] 1 G.k2
def IS(P:eg m.K m.aI "_law_beside" xE C ["_law_cell"])(Qq:fy m.aI):qy m C:=by
 refine fQ Mp P λao R O Rg h j Qt a=>?_;exact (b3 (dt (f5 (by exact (g0 (gX (by exact (ct (cY qT (cL a (au 0) a9) a9)<|cL a (au 0) a9))) (by exact (hM (gX (by exact (ct (cL a (au 0) a9)<|cY qT (cL a (au 0) a9) a9))) (gX (by exact (ct (cL a (au 0) a9)<|cY f3 (cL a (au 0) a9) a9))) (gX (by exact (ct (cY f3 (cL a (au 0) a9) a9)<|cL a (au 0) a9))))))))))
abbrev rV(m:e_)(C:ak):Prop:=fC m 2 "_law_part" ye C ["_law_some","_law_begin"] 2 G.kG
def Im(P:eg m.K m.aI "_law_part" ye C ["_law_some","_law_begin"])(Qq:fy m.aI){b:ak}(c:qy m b):rV m C:=by
 refine fQ OJ P λao R O Rg h j Qt a=>?_;exact (bO (dF 2 ao (iH (sX rfl<|qj a) rfl Qq.r2 sI (bX (aY (j8 ["_law_cell"] [] (fD<|au 0) (λd=>(gi 0)) (λd=>(i5 (by exact (ct (au 0)<|aY fB))))))))) (bO (dF 3 ao<|Bb (cg a) (hr<|ef 1) fB) (bO (dF 4 ao (f5 (by exact (bX<|au 1)))) (bO (qL 1000000 hn (cX (jm<|cg a) (au 4) (aY (f5 (by exact lL)))<|dK _) (b3 (j2 (Ri:=[0,1]) hn rfl (fD<|aY<|c9 c a<|bX<|aY<|Ht mW mF zf Bn Nm<|ef 4) (iO 5 ao) (b3<|el (eR.gO<|mV (cX (lS<|cg a) (au 5) (au 2) rfl)<|qQ<|cX (jH<|cg a) (au 5) (au 3) rfl) (bO (l4 fB<|nJ (ef 3) (hr<|ef 5)<|xm<|cg a)<|b3<|m3<|n0 mW mF ry qb px (ef 4)<|bX<|au 5) eI) ∅ u5)))<|b3<|dt<|iH sW rfl Qq.jZ kP<|bX<|aY<|ek (sz rfl<|cg a) Qq.uy sl<|bX<|au 3))))
abbrev CO(m:e_)(C:ak):Prop:=fC m 2 "_law_grown" xD C ["_law_left_here","_law_most"] 2 G.ob
def Mz(P:eg m.K m.aI "_law_grown" xD C ["_law_left_here","_law_most"])(Qq:fy m.aI){c:ak}(b:t9 m c){d:ak}(e:qy m d):CO m C:=by
 refine fQ I4 P λao R O Rg h j Qt a=>?_;exact (bO (dF 2 ao (f5 (by exact (bX (gX (by exact (ct a9 a9))))))) (bO (j2 (Ri:=[0,1]) hn rfl (qs rfl Qq.qv<|bX<|aY<|c9 b a<|ct (au 0)<|au 1) (iO 3 ao) (bO (dF 4 ao<|jA a (aY<|c9 e a<|bX<|cL a (au 2)<|aY<|c9 b a<|ct (au 0)<|aY<|ek gG Qq.gp gy<|bX<|au 2)<|aY<|c9 b a<|ct (au 0) a9)<|b3<|el (eR.gO<|mV (cX (jH<|cg a) (au 4) (au 2) rfl)<|mV (E7 sb sb a9 (cL a (au 4) a9) a9)<|qQ<|E7 sb sb a9 (cL a (au 4) a9) a9) (b3<|m3<|n0 mW mF ry qb px (ef 2)<|bX<|au 4) eI) ∅ vp)<|b3<|dt<|hr<|ef 2))
abbrev CU(m:e_)(C:ak):Prop:=fC m 3 "_law_field" pI C ["_law_left_here","_law_most"] 2 G.pk
def HA(P:eg m.K m.aI "_law_field" pI C ["_law_left_here","_law_most"])(Qq:fy m.aI){e:ak}(d:t9 m e){f:ak}(g:CO m f){i:ak}(k:rV m i):CU m C:=by
 refine fQ x5 P λao R O Rg h j Qt b=>?_;exact (bO (dF 2 ao<|c9 d b<|ct (au 0) a9) (bO (nT (a:=3) ao rfl (Or.inr rfl) (hL f3 a9<|aY<|c9 d b<|ct (au 0) a9) ∅) (bO (dF 4 ao<|hL f3 a9<|aY<|c9 d b<|ct (au 0)<|aY<|ek (F9 rfl<|cg b) Qq.NP Gx<|ct a9<|aY<|ek (Mh rfl<|cg b) Qq.MB F7<|ct a9<|cY p1 (au 1)<|au 3) (bO (ph (a:=5) (own:=["_law_k"]) (QW:=[3]) ao rfl (Or.inl rfl) rfl (mi (dB pI) x5 (by decide +kernel)) ∅ (qs rfl Qq.qv<|bX<|cY jE (au 4)<|au 3) (λc=>(gi 0)) (λc=>va) (λc=>(i5 (by exact (ct (cY p1 (au 0)<|au 1)<|cY ia (au 0)<|au 1)))) ∅) (bO (el (eR.gO<|g4 (cX (hN<|cg b) (au 2) a9<|dK _)<|jB<|cX (hN<|cg b) (au 2) a9<|dK _) (b3 (j2 (Ri:=[0,1]) hn rfl (qs rfl Qq.qv<|bX<|aY<|c9 d b<|ct (au 0)<|cY f3 a9<|cY p1 (aY<|ek gG Qq.gp gy<|bX<|au 5) a9) (iO 6 ao) (b3<|m3<|n0 mW mF zf Bn Hs (ef 5)<|bX<|aY<|c9 d b<|ct (au 0)<|aY<|ek gG Qq.gp gy<|bX<|au 5) ∅ vp)) (b3 (el (cX (hN<|cg b) (au 2) a9<|dK _) (b3 (ph (a:=5) (own:=["_law_cell"]) (QW:=[]) ao rfl (Or.inl rfl) rfl (mi (dB pI) x5 (by decide +kernel)) ∅ (fD<|au 5) (λc=>(gi 0)) (λc=>(qq<|cX (hN<|cg b) (cY jE (cY ia (cL b (au 0) a9) a9)<|cY ia (cY ia (cL b (au 0) a9) a9) a9) a9<|dK _)) (λc=>(hr<|ef 0)) ∅))<|b3<|el (cX vj (au 2) a9<|dK _) (b3<|dF 5 ao<|c9 g b<|ct (au 0)<|au 1) eI))) (bO (dF 7 ao<|c9 k b<|ct (au 5)<|cL b (au 5)<|aY<|c9 d b<|ct (au 0)<|aY<|ek gG Qq.gp gy<|bX<|au 5) (bO (l4 (j8 ["_law_k"] [0] (qs rfl Qq.qv<|bX a9) (λc=>(gi 0)) (λc=>(jA b (aY (f5 (by exact (g0 a9 (by exact (hM a9 a9 a9))))))<|aY<|c9 d b<|ct (au 1) a9))) (J9 rfl (tn (tJ (a:=8) ao rfl (Or.inr rfl) ∅) (tn (tJ (a:=9) ao rfl (Or.inr rfl) ∅) Cm)))) (b3 (dt (iH sW rfl Qq.jZ kP (bX (aY (j8 ["_law_cell"] [8,9] (fD<|au 7) (λc=>(gi 0)) (λc=>(i5 (by exact (ct (cY f3 (cL b (au 0) a9)<|au 1)<|cY f3 (cL b (au 0) a9)<|au 2)))))))))))))))))
abbrev w2(m:e_)(C:ak):Prop:=fC m 2 "_law_is_walk" yt C ["_law_field_here","_law_thing"] 2 G.pR
def NS(P:eg m.K m.aI "_law_is_walk" yt C ["_law_field_here","_law_thing"])(Qq:fy m.aI){c:ak}(d:qy m c):w2 m C:=by
 refine fQ NU P λao R O Rg h j Qt a=>?_;exact (bO (el (eR.gO<|g4 (jq<|g5<|aY<|nE rfl Qq.nz m2 rfl Qq.jZ kP<|au 1)<|jB<|cX (hN<|cg a) (aY<|ek gG Qq.gp gy<|bX<|au 1) a9<|dK _) (b3<|dt fB) eI) (bO (j2 (Ri:=[0,1]) hn rfl (fD<|au 1) (iO 2 ao) (bO (el (eR.gO<|g4 (jq<|g5<|aY<|nE rfl Qq.nz m2 rfl Qq.jZ kP<|au 2)<|g4 (cX (jm<|cg a) (aY<|ek gG Qq.gp gy<|bX<|au 2) a9<|dK _)<|jB<|cX (jH<|cg a) (au 2) (au 0) rfl) (b3<|dt fB) eI)<|b3<|el (jq<|g5<|aY<|ek (rB rfl) Qq.uD tM<|bX<|aY<|j8 ["_law_number"] [] (fD<|au 2) (λb=>(gi 0))<|λb=>(sd (l1<|nE rfl Qq.nz m2 rfl Qq.E5 C9<|au 0)<|l1<|ve<|Jv<|l1<|nE rfl Qq.nz m2 rfl Qq.FZ LM<|au 0)) (b3<|dt fB) eI) ∅ (tm ∅))<|b3<|dt<|ek (rB rfl) Qq.uD tM<|bX<|aY<|j8 ["_law_one" ,"_law_other"] [] (Pq rfl Qq.JO<|ct (au 1)<|aY<|uF (au 1) (qX hc) vS) (λb=>(Em (gi 0)<|gi 1))<|λb=>(lH (lS<|cg a) (au 1) (aY<|c9 d a<|bX<|au 0) rfl)))
abbrev zM(m:e_)(C:ak):Prop:=fC m 2 "_law_apart" r8 C ["_law_left_here","_law_field_here"] 2 G.oz
def KN(P:eg m.K m.aI "_law_apart" r8 C ["_law_left_here","_law_field_here"])(Qq:fy m.aI){e:ak}(c:t9 m e){f:ak}(g:qy m f):zM m C:=by
 refine fQ DS P λao R O Rg h j Qt b=>?_;exact (bO (nT (a:=2) ao rfl (Or.inr rfl) (jA b (au 1)<|aY<|c9 c b<|ct (au 0)<|aY<|ek gG Qq.gp gy<|bX<|au 1) ∅) (bO (ph (a:=3) (own:=["_law_cell"]) (QW:=[2]) ao rfl (Or.inl rfl) rfl (mi (dB r8) DS (by decide +kernel)) ∅ (fD<|au 1) (λd=>(gi 0)) (λd=>(qq<|eR.gO<|mV (cX (jm<|cg b) (au 0) (au 1)<|dK _)<|qQ<|cX (jH<|cg b) (au 0) (aY<|c9 g b<|bX<|au 1) rfl)) (λd=>(hr<|ef 0)) ∅) (bO (el (cX (hN<|cg b) (au 3) (aY (f5 (by exact lL)))<|dK _) (b3<|dt ti) eI) (b3 (dt (i5 (by exact (ct (au 2)<|cL b (au 3)<|aY<|c9 c b<|ct (au 0)<|aY<|ek gG Qq.gp gy<|bX<|au 3))))))))
abbrev xC(m:e_)(C:ak):Prop:=fC m 3 "_law_bars" uo C ["_law_field_here","_law_a","_law_b","_law_cells"] 4 G.oQ
def Gi(P:eg m.K m.aI "_law_bars" uo C ["_law_field_here","_law_a","_law_b","_law_cells"])(Qq:fy m.aI){c:ak}(d:rV m c):xC m C:=by
 refine fQ ze P λao R O Rg h j Qt a=>?_;exact (b3 (dt (lH (jH<|cg a) (au 2) (aY (c9 d a (ct (aY (xJ (own:=["_law_cell"]) (QW:=[3]) rfl (mi (dB uo) ze (by decide +kernel)) ∅ (fD<|au 0) (λb=>(gi 0)) (λb=>(qq<|cX (jH<|cg a) (au 0) (au 1) rfl))<|λb=>(hr<|ef 0)))<|au 1))) rfl)))
abbrev B3(m:e_)(C:ak):Prop:=fC m 3 "_law_are_cells" u7 C ["_law_field_here","_law_thing"] 2 G.rG
def Ob(P:eg m.K m.aI "_law_are_cells" u7 C ["_law_field_here","_law_thing"])(Qq:fy m.aI){c:ak}(d:w2 m c):B3 m C:=by
 refine fQ Pb P λao R O Rg h j Qt a=>?_;exact (bO (el (eR.gO (g4 (jq<|g5<|aY<|nE rfl Qq.nz m2 rfl Qq.jZ kP<|au 1) (jB (jq (g5 (aY (ek (rB rfl) Qq.uD tM (bX (aY (j8 ["_law_cell"] [0] (fD<|au 1) (λb=>(gi 0)) (λb=>(c9 d a (ct (au 1) (gX (by exact (bX<|au 0)))))))))))))))) (b3<|dt fB) eI) (b3 (dt (lH (hN<|cg a) (aY<|iH wy rfl Qq.xp xS<|bX<|au 1) (aY (ek (sz rfl<|cg a) Qq.uy sl (bX (aY (iH (sX rfl<|qj a) rfl Qq.r2 sI (bX (aY (j8 ["_law_cell"] [] (fD<|au 1) (λb=>(gi 0)) (λb=>(i5 (by exact (ct (au 0)<|aY fB))))))))))))<|dK _))))
abbrev FT(m:e_)(C:ak):Prop:=fC m 3 "_law_are_apart" xl C ["_law_field_here","_law_a","_law_b","_law_ways"] 4 G.rC
def GB(P:eg m.K m.aI "_law_are_apart" xl C ["_law_field_here","_law_a","_law_b","_law_ways"])(Qq:fy m.aI){c:ak}(d:w2 m c):FT m C:=by
 refine fQ O_ P λao R O Rg h j Qt a=>?_;exact (bO (el (eR.gO<|g4 (jq<|g5<|aY<|nE rfl Qq.nz m2 rfl Qq.jZ kP<|au 3)<|jB<|jq<|g5<|aY<|ek (rB rfl) Qq.uD tM<|bX<|aY<|j8 ["_law_way"] [0] (fD<|au 3) (λb=>(gi 0))<|λb=>(c9 d a<|ct (au 1)<|au 0)) (b3<|dt fB) eI) (bO (el (cX (jm<|cg a) (aY<|iH wy rfl Qq.xp xS<|bX<|au 3) (aY (ek (sz rfl<|cg a) Qq.uy sl (bX (aY (iH (sX rfl<|qj a) rfl Qq.r2 sI (bX (aY (j8 ["_law_way"] [] (fD<|au 3) (λb=>(gi 0)) (λb=>(i5 (by exact (ct (au 0)<|aY fB))))))))))))<|dK _) (b3<|dt fB) eI) (bO (dF 4 ao (f5 (by exact lL))) (bO (j2 (Ri:=[0,1,2,3]) hn rfl (fD<|au 3) (iO 5 ao) (bO (el (eR.gO<|g4 (cX Lp (aY<|ek gG Qq.gp gy<|bX<|au 5) a9<|dK _)<|g4 (cX (jm<|cg a) (cL a (au 5) a9) (au 1)<|dK _)<|jB<|cX (jm<|cg a) (cL a (au 5)<|aY<|o4 hc) (au 2)<|dK _) (b3<|dt fB) eI)<|b3<|dF 4 ao<|hL f3 (au 4)<|aY<|iH wy rfl Qq.xp xS<|bX<|aY<|uF (au 5) (qX hc)<|qX<|o4 hc) ∅ (tm ∅))<|b3<|dt<|sd (l1<|lH (hN<|cg a) (aY<|ek gG Qq.gp gy<|bX<|au 4) (aY<|Pf (qj a) rfl Qq.gp rfl Qq.Mr<|bX<|au 4)<|dK _)<|sd (l1<|lH (jH<|cg a) (au 1) (au 4) rfl)<|l1<|ve<|lH (jH<|cg a) (au 2) (au 4) rfl))))
abbrev zh(m:e_)(C:ak):Prop:=fC m 4 "_law_is_shown" uI C ["_law_field_here","_law_a","_law_b","_law_cells","_law_ways"] 5 G.sL
def Mt(P:eg m.K m.aI "_law_is_shown" uI C ["_law_field_here","_law_a","_law_b","_law_cells","_law_ways"])(Qq:fy m.aI){b:ak}(c:B3 m b){d:ak}(e:xC m d){f:ak}(g:FT m f):zh m C:=by
 refine fQ J3 P λao R O Rg h j Qt a=>?_;exact (bO (el (eR.gO (g4 (jq<|g5<|aY<|c9 c a<|ct (au 0)<|au 3) (g4 (cX (lS<|cg a) (au 1) (au 3) rfl) (g4 (cX (lS<|cg a) (au 2) (au 3) rfl) (jB (jq (g5 (aY (c9 e a (g0 (au 0) (by exact (hM (au 1) (au 2)<|au 3)))))))))))) (b3<|dt fB) eI) (b3 (dt (sd (l1 (c9 g a (g0 (au 0) (by exact (hM (au 1) (au 2)<|au 4)))))<|l1<|ve<|lH (hN<|cg a) (aY<|ek gG Qq.gp gy<|bX<|au 4) (aY<|ek gG Qq.gp gy<|bX<|au 3)<|dK _))))
theorem Ct{m:e_}{C:ak}(P:eg m.K m.aI "_law_can_bar" ud C ["_law_field_here","_law_a","_law_b","_law_some","_law_many"])(Qq:fy m.aI){c:ak}(b:xC m c):∀n,fC m (4+n) "_law_can_bar" ud C ["_law_field_here","_law_a","_law_b","_law_some","_law_many"] 5 (G.mv n)
 |0=>Kr P
 |n+1=>by
  have d:=Ct P Qq b n;refine fQ PR P λao R O Rg h j Qt a=>?_;exact (bO (el (g5 (aY (Ew b a (Nat.le_add_right_of_le ∅) (g0 (au 0) (by exact (hM (au 1) (au 2)<|au 3)))))) (b3<|dt fB) eI) (bO (el (cX (hN<|cg a) (au 4) (aY<|ek gG Qq.gp gy<|bX<|au 3)<|dK _) (b3<|dt fB) eI) (bO (j2 (Ri:=[0,1,2,3,4]) hn rfl (fD<|au 0) (iO 5 ao) (b3 (el (eR.gO (mV (cX (jm<|cg a) (au 5) (au 1)<|dK _) (mV (cX (jm<|cg a) (au 5) (au 2)<|dK _) (qQ (eR.gO (g4 (cX (hN<|cg a) (au 3) (aY (f5 (by exact lL)))<|dK _)<|jB<|cX (PN<|cg a) (au 5) (cL a (au 3)<|aY<|o4 hc)<|dK _)))))) (b3 (el (g5 (aY (Ew d a (a5 _) (g0 (au 0) (by exact (g0 (au 1) (by exact (hM (au 2) (cY f3 (au 3) (aY (f5 (by exact (bX<|au 5)))))<|au 4)))))))) (b3<|dt fB) eI)) eI)) ∅ (tm ∅))<|b3<|dt fB)))
abbrev Lk(m:e_)(C:ak):Prop:=fC m 11 "law" wQ C ["_law_script"] 1 G.n9
def Gp(P:eg m.K m.aI "law" wQ C ["_law_script"])(Qq:fy m.aI){c:ak}(d:DM m c){e:ak}(f:CU m e){g:ak}(i:rV m g){k:ak}(l:zM m k){n:ak}(b:y8 m n){o:ak}(p:zh m o){q:ak}(r:fC m 10 "_law_can_bar" ud q ["_law_field_here","_law_a","_law_b","_law_some","_law_many"] 5 (G.mv 6)):Lk m C:=by
 refine fQ MV P λao R O Rg h j Qt a=>?_;exact (bO (j2 (Ri:=[0]) hn rfl (qs rfl Qq.qv<|bX a9) (iO 1 ao) (bO (dF 2 ao<|c9 d a<|ct (au 0)<|au 1) (bO (dF 3 ao<|c9 f a<|ct (au 2) a9) (bO (dF 3 ao<|c9 i a<|ct (aY<|uF (au 3) vS<|qX hc)<|cL a (au 3) a9) (bO (dF 4 ao<|c9 l a<|ct (au 2)<|au 3) (b3 (el (cX Eb (au 4) (aY ti)<|dK _) (bO (dF 5 ao<|c9 b a<|hM (au 3) (cL a (au 4) a9)<|cL a (au 4) a9) (bO (el (eR.gO<|g4 (jq<|g5<|aY<|nE rfl Qq.nz m2 rfl Qq.jZ kP<|au 5)<|jB<|cX (jm<|cg a) (aY<|ek gG Qq.gp gy<|bX<|au 5) a9<|dK _) (b3<|dt fB) eI) (bO (l4 (hr<|ef 5)<|Em (iO 6 ao)<|iO 7 ao) (bO (el (eR.gO (g4 (jq (g5 (aY (c9 p a (g0 (au 3) (by exact (g0 (cL a (au 4) a9) (by exact (hM (cL a (au 4) a9) (au 6)<|au 7)))))))))<|jB<|cX (jm<|cg a) (aY<|c9 b a<|hM (au 3) (cL a (au 4) a9)<|cL a (au 4) a9) (au 5)<|dK _)) (b3<|dt fB) eI) (b3 (el (g5 (aY (c9 r a (g0 (au 3) (by exact (g0 (cL a (au 4) a9) (by exact (hM (cL a (au 4) a9) (aY (f5 (by exact lL)))<|cY qT (aY<|ek gG Qq.gp gy<|bX<|au 6) a9)))))))) (b3<|dt fB) eI)))))) eI)))))) ∅ vp)<|b3<|dt fB)
end
def all_mk{l:bc}{Qw:Φ}{c:aV}{aI:aB->Option ae}{ed p q r s t v w y z A B C D E F H I J L M:ak}(b:Qw.In c)(a:c.Ns dq aI)(N:aI "law" = Z (.ref ed)){g i:hH}(O:dM Qw "around" wA p)(P:dM Qw "onward" rR q)(Q:dM Qw "search" vC r)(R:dM Qw "lay_way" vV s)(S:dM Qw "way_back" ys t)(T:dM Qw "barred" rn v)(U:dM Qw "_law_left" vF w)(al:dM Qw "_law_pick" x_ y)(am:dM Qw "_law_beside" xE z)(an:dM Qw "_law_part" ye A)(ap:dM Qw "_law_grown" xD B)(as:dM Qw "_law_field" pI C)(a1:dM Qw "_law_is_walk" yt D)(a2:dM Qw "_law_apart" r8 E)(bd:dM Qw "_law_bars" uo F)(be:dM Qw "_law_are_cells" u7 H)(bi:dM Qw "_law_are_apart" xl I)(bm:dM Qw "_law_is_shown" uI J)(bn:dM Qw "_law_can_bar" ud L)(j:dM Qw "law" wQ M)(bs:Ψ Qw dq "IN" = Z (Z<|.str "in" g))(bv:Ψ Qw dq "OUT" = Z (Z<|.str "out" i))(ca:Ψ Qw dq "all" = Z Y)(cd:Ψ Qw dq "bool" = Z Y)(ce:Ψ Qw dq "dict" = Z Y)(ch:Ψ Qw dq "int" = Z Y)(ci:Ψ Qw dq "isinstance" = Z Y)(cl:Ψ Qw dq "len" = Z Y)(co:Ψ Qw dq "list" = Z Y)(cr:Ψ Qw dq "max" = Z Y)(cs:Ψ Qw dq "min" = Z Y)(db:Ψ Qw dq "range" = Z Y)(ds:Ψ Qw dq "reversed" = Z Y)(dL:Ψ Qw dq "set" = Z Y)(eq:Ψ Qw dq "sorted" = Z Y)(ev:Ψ Qw dq "tuple" = Z Y)(ex:Ψ Qw dq "zip" = Z Y):
  ∃fd:gj,(∀(h:ah) (u:ae),me h fd ⟨[u],[]⟩ [("_law_script",u)])/\∀QH:aV,Qw.In QH->QH.Ns dq aI->iz x.prog l Qw aI QH hT 11 ed fd ["_law_script"] (jY 1 G.n9):=by
 have Qq:fy aI:=⟨g9 b a ca,g9 b a cd,g9 b a ce,g9 b a ch,g9 b a ci,g9 b a cl,g9 b a co,g9 b a cr,g9 b a cs,g9 b a db,g9 b a ds,g9 b a dL,g9 b a eq,g9 b a ev,g9 b a ex,⟨g,lq b a bs⟩,⟨i,lq b a bv⟩⟩;have h_w18:=bn.k6 (QF:=["_law_field_here","_law_a","_law_b","_law_some","_law_many"]) b a;refine Iq j b a N (λ_ K K K K K K K=>.of_eq rfl) λQH=>?_;let m:e_:=⟨x.prog,l,Qw,aI,QH⟩
 have k:=Gw (m:=m) (O.dV b a) Qq;have fn:=Mo (m:=m) (P.dg b a) Qq k;have fr:=K9 (m:=m) (Q.dg b a) Qq fn;have f0:=OD (m:=m) (R.qF b a) Qq;have f1:=O5 (m:=m) (S.qF b a) Qq;have f2:=GX (m:=m) (T.qF b a) Qq k fr f0 f1;have f4:=MT (m:=m) (U.dg b a) Qq;have e:=NZ (m:=m) (al.dg b a) Qq;have d:=IS (m:=m) (am.dV b a) Qq;have f:=Im (m:=m) (an.dg b a) Qq d;have f8:=Mz (m:=m) (ap.dg b a) Qq e d;have ga:=HA (m:=m) (as.dg b a) Qq e f8 f;have n:=NS (m:=m) (a1.dg b a) Qq d;have ge:=KN (m:=m) (a2.dg b a) Qq e d;have o:=Gi (m:=m) (bd.kY b a) Qq f;have gl:=Ob (m:=m) (be.dg b a) Qq n;have go:=GB (m:=m) (bi.kY b a) Qq n;have gt:=Mt (m:=m) (bm.k6 b a) Qq gl o go;have g1:=Ct (m:=m) h_w18 Qq o 6;exact Gp (m:=m) (j.dV b a) Qq f4 ga f ge f2 gt g1
def walk{p:bz}{b:List aB}{d:(aB->Option ae)->aV->Prop}{a:bc->aV->Prop}{v:DefRec}{Qw:s_->Φ}(e:x.most=Z 63)(i:v.params.defaults=[])(k:∀(l:bc) (c:aV),a l c->(Qw l.params).In c)(m:∀q,ps (Qw q)=X)(P:∀(l:bc) (aI:aB->Option ae) (ed:ak) (c:aV),(Qw l.params).In c->c.Ns dq aI->aI v.name=Z (.ref ed)->
   ∃fd:gj,(∀(h:ah) (J:ae),me h fd ⟨[J],[]⟩ [("_law_script",J)])/\∀QH:aV,(Qw l.params).In QH->QH.Ns dq aI->iz x.prog l (Qw l.params) aI QH hT 11 ed fd ["_law_script"] (jY 1 G.n9)):
  PySem.W.WalkO p b d a x.row.toRowW v [] (λC U=>PySem.call C U):=
 L2.Ot (r:=63) (n:=11) (f := "_law_script") (z:=λ_=>hT) (Ru:=λl=>jY 1 G.n9) e ∅ i ⟨rfl,by decide,by decide,rfl⟩ k P (λl j g QM o s t=>KL (m l.params) j g QM s t (G.G6 QM (r5 o ∅))) λ_ T T T T u=>u
end K32
namespace PySem.W.Fast
def tw18224931380774038933:=(0)
def tw5533718569006690464:=(0)
def tw9663167716865032194:=(0)
def tw10426976451270579266:=(0)
def tw5851654574925796898:=(0)
def tw5319247610066072162:=(0)
def tw3957872755335496354:=(0)
def tw5926491343098177410:=(0)
def tw11256957250629582147:=(0)
def tw6383847878601740835:=(0)
def tw2604278350269441188:=(0)
def tw17426321689035435204:=(0)
def tw13725205448058972772:=(0)
def tw9141626276888333284:=(0)
def tw10010413368570115109:=(0)
def tw5228884471993441893:=(0)
def tw1262050214722880453:=(0)
def tw10641989931930695910:=(0)
def tw9135513815224641958:=(0)
def tw13569008308528856263:=(0)
def tw6603315709159040679:=(0)
def tw17595379672270971751:=(0)
def tw26556051252400360:=(0)
def tw11192468834161860424:=(0)
def tw15070588530560371113:=(0)
def tw10653920889544994281:=(0)
def tw4056296128739607273:=(0)
def tw8531621182804272969:=(0)
def tw16466844510696617994:=(0)
def tw1394071145474223722:=(0)
def tw9942679410306791114:=(0)
def tw14667324125973822250:=(0)
def tw14675031357991457610:=(0)
def tw11774836088244512875:=(0)
def tw17617719941249705227:=(0)
def tw3842379999469858444:=(0)
def tw17106347489951400045:=(0)
def tw12977061122091709869:=(0)
def tw11200231755066528237:=(0)
def tw1881448763631137645:=(0)
def tw10511580701154382862:=(0)
def tw18141644606114939598:=(0)
def tw6623056180134787919:=(0)
def tw15549704860571804527:=(0)
def tw3203672511922947440:=(0)
def tw5065067582421450160:=(0)
def tw15145725668546097616:=(0)
def tw7555325253959321233:=(0)
def tw16983015867940574129:=(0)
def tw16265270355726039283:=(0)
def tw7122878603070935603:=(0)
def tw16428821514062084787:=(0)
def tw13881589370537068243:=(0)
def tw13523304647931866356:=(0)
def tw12155693910121871636:=(0)
def tw12448306237379157556:=(0)
def tw2601249366055481940:=(0)
def tw13741459363217344308:=(0)
def tw3783059017007832437:=(0)
def tw8052627021381596693:=(0)
def tw155339768737971126:=(0)
def tw7622253133345858071:=(0)
def tw17205296435705390871:=(0)
def tw17602074568033500983:=(0)
def tw3652549819186027447:=(0)
def tw15446536847831223448:=(0)
def tw8522034484064857496:=(0)
def tw8072030489109026488:=(0)
def tw16565610424089290520:=(0)
def tw10918657340728670008:=(0)
def tw15920999366960900952:=(0)
def tw11870912194776809304:=(0)
def tw10383408116320117145:=(0)
def tw3034648175071432281:=(0)
def tw15769006811193700442:=(0)
def tw6924560653639404634:=(0)
def tw8082170071658842266:=(0)
def tw15860782219815598266:=(0)
def tw17821974309222262843:=(0)
def tw1264948226010275963:=(0)
def tw6565043821947052187:=(0)
def tw11255899919200225563:=(0)
def tw9419695103294960636:=(0)
def tw31460452175933:=(0)
def tw11973328409902420541:=(0)
def tw5289384857197493981:=(0)
def tw5781610021855698909:=(0)
def tw13789802385763090590:=(0)
def tw7581972140332739774:=(0)
def tw8548579178929228158:=(0)
def tw2575608043471830590:=(0)
def tw16087563360984674974:=(0)
def tw4260645466581004126:=(0)
def tw13824463522672650142:=(0)
def tw2041309069336847519:=(0)
def tw6476681911623997695:=(0)
def tw14074160737193001439:=(0)
end PySem.W.Fast
end
open PySem PySem.W PyProof.Rows
set_option maxRecDepth 100000 in
set_option maxHeartbeats 0 in
theorem PySem.Challenge.cw_mowfloor_k32_bars_of_small_floors_holds : PySem.Challenge.rw_mowfloor_k32_bars_of_small_floors.Holds := by
  w_on; o_law; k_head; (case hw => w_witness2)
  k_fill
  refine K32.walk (x := PySem.Challenge.rw_mowfloor_k32_bars_of_small_floors) rfl rfl (fun w h Y => PySem.W.kIn_of Y) ?hK ?F
  case hK => intro p; rfl
  case F =>
    intro w mg fa h KX G hmg
    apply K32.all_mk KX G hmg
    iterate 20 (apply L2.Cy; iterate 4 k_is)
    iterate 17 k_is
