import PyProof.Rows.All
import Wide.All
import OpenK.AllK
import Wide.FinOn
import Lean
import PyProof.EqAt
import PyProof.EqKinds
import PyProof.TupleCall
import PyProof.IsiNone
import PyProof.NeKinds
import PyProof.MaxThree
import PyProof.Rows.SetFrom
import PyProof.WalksMore
import PyProof.CallStr
import KE.KRevIter
import PySem.Challenge.RW_mowfloor_k52_round_and_round
set_option maxHeartbeats 4000000
set_option Elab.async false
set_option compiler.extract_closed false
open List (range range')
open Nat (beq)
noncomputable section
local macro_rules|`(∅)=>`(by decide)
local macro_rules|`(⇑$e)=>`(by simpa using $e)
local macro_rules|`(↥$_)=>`(by simp)
local macro_rules|`(tactic|let $p:term:=$e)=>do
 let q:=p.raw
 let X (s:Lean.Syntax):=s.isOfKind ``Lean.Parser.Term.explicit
 let I (s:String):=Lean.mkIdent (.mkSimple s)
 let l:=(if X q then q[1] else q)[1].getSepArgs
 let n:=l.size
 let j:=if X q then 0 else ((l.findIdx? X).map (·+1)).getD 99
 let mut b:Array Lean.Ident:=#[]
 let mut t:Array (Lean.TSyntax `tactic):=#[]
 let w:=I "ζ"
 let E:=e.raw
 let u:=E.getId
 let c:=j<99&&E.isIdent&&l.any fun s=>s.getId==u||s[1].getId==u
 let h:=I "ξ"
 let u:=u.toString
 let u:=if u.startsWith "ζ" then u else "ζ"
 let d:Lean.Term:=if c then h else e
 let r ←if c then `(tactic|(revert $(⟨e⟩):ident;intro $h:ident)) else `(tactic|skip)
 if j<99&&E.isIdent then t:=t.push (←`(tactic|try clear $(⟨d⟩):ident))
 for i in [0:n] do
  let s:=if i+1==j then l[i]![1] else l[i]!
  let z:=I s!"{u}{i}"
  if s.isIdent&&(j==99||s.getId != `rfl) then b:=b.push ⟨s⟩
  else
   b:=b.push z
   if s.isIdent then t:=t.push (←`(tactic|subst $z))
   else if !s.isOfKind ``Lean.Parser.Term.hole then t:=t.push (←`(tactic|let $(⟨s⟩):term:=$z))
 let A:=b.extract j n
 let B:=b.extract 0 j
 let k:=I s!"xE{j}"
 if j==99 then `(tactic|(obtain ⟨$[$b:ident],*⟩:=$e;$t;*)) else if j==0 then `(tactic|($r;refine $(I s!"xA{n}") ($d :) fun $b* =>?_;$t;*)) else if j+1==n then `(tactic|($r;refine $k ($d :) fun $b* =>?_;$t;*)) else `(tactic|($r;refine $k ($d :) fun $B* $w=>?_;refine $(I s!"xA{n-j}") $w fun $A* =>?_;clear $w;$t;*))
local macro_rules|`(command|def $i:declId $s:optDeclSig:=$v)=>if v.raw.isOfKind ``Lean.Parser.Term.paren then `(command|noncomputable def $i $s:optDeclSig:=$v) else (·.raw.rewriteBottomUp (·.setInfo .none))<$>`(command|theorem $i $(⟨.node .none ``Lean.Parser.Command.declSig #[s.raw[0],s.raw[1][0]]⟩):declSig:=$v)|`(command|def $i:declId $s:optDeclSig $v:matchAlts)=>`(command|noncomputable def $i $s:optDeclSig $v:matchAlts)|`(command|@[simp] def $i:declId $s:optDeclSig:=$v)=>`(command|@[simp] noncomputable def $i $s:optDeclSig:=$v)|`(command|@[simp] def $i:declId $s:optDeclSig $v:matchAlts)=>`(command|@[simp] noncomputable def $i $s:optDeclSig $v:matchAlts)|`(command|abbrev $i:declId $s:optDeclSig:=$v)=>`(command|noncomputable abbrev $i $s:optDeclSig:=$v)
local macro_rules|`(⋯)=>`(by lia)
open PySem renaming wpAny_bind->aw,wpAny_pure->aR,wpAny_newObj_type->gp,wpAny_holding->fU,wpAny_call_entry->i0,wpAny_setState_of->j3,codeAny_builtin->jw,wpAny_mono->gT,plainId_quiet->jl,wpAny_forIn_list->lR,wpAny_seqItems->k0,wpAny_typeNameOfWhole_keyiter->sA,wpAny_callSpecial?_slot->rm,wpAny_Call_Name_kw->pz,wpAny_passesOwn->nr,wpAny_rule->jy,wpAny_setEntries_of->rr,wpAny_typeOf->lp,wpAny_fieldsOf->ou,wpAny_specialOf->qx,wpAny_updateSeq->qh,wpAny_truthy_bool->sd,codeAny_mono->pn,wpAny_setField->rI,wpAny_tryCatch->pO,isSubtype_type->p2,builtinLookup_eq_fast->wX,wpAny_isInstance->sk,wpAny_execs_nil->tl,wpAny_pyIter_slot->ys,wpAny_dictEntries->xY,wpAny_pyIter_list->yB,wpAny_attempt->tF,wpAny_newList->uw,filterMap_getElem?_range->zF,noFill_tuple_add->w3,wpAny_askSetting->wU,call_meets->qr,richCompare_meets_room->FK,wpAny_dictEpoch->yX,typeLookup_type->xN,wpAny_ite_split->xK,wpAny_notOrdered_dict->Fb,wpAny_isOneOf_keyiter->BR,seqIndex_of->tv,wpAny_of_eq->tw,wpAny_pyIter_keyiter->Bz,wpAny_letGo->sT,wpAny_standAt->vD,seq_tuple_add->xi,wpAny_getItem_heap->D8,wpAny_pyIter_tuple->Gi,wpAny_dictSet_heap->Dn,eqIsQuiet_byValue->zx,concat_meets->wD,wpAny_sequenceKey->Bo,seqIndex_neg->yz,slot_list_getitem->Ao,list_append->B5,wpAny_storeSet_of->z6,wpAny_setEpoch_of->Cm,wpAny_pyHash_int->E1,wpAny_pyHash_str->Gr,wpAny_execs_cons->D4,entryFor_of_tree->Au,sizeLine_eq->yb,wpAny_field->yd,wpAny_alloc->yf,codeAny_of_tree->Bm,wpAny_Name->vt,wpAny_bindName->Ci,wpAny_load->yo,wpAny_call->xS,typeIs_str->wO,isSubtype_stop->EZ,entryFor_alias->Ca,wpAny_runValue->EV,evalPart_none->A4,wpAny_handled->Bw,intBits_le_64->zQ,signature?_of->zV
open Option renaming bind_eq_some_iff->bu,map_eq_some_iff->cB,bind_some->gg,map_some->o5,getD_some->qz,isSome_map->ti,isSome_iff_exists->EI,getD_none->CS
open List renaming append_assoc->bg,getD_eq_getElem?_getD->ct,length_map->bt,mem_singleton->cm,append_nil->bR,perm_append_comm->cW,getElem?_eq_getElem->dr,map_cons->bY,size_toArray->cO,mem_append_right->di,mem_cons->cc,nodup_append->c1,getElem?_eq_some_iff->e4,mem_append_left->ea,pairwise_singleton->eY,getElem?_map->dT,length_cons->dA,length_append->d4,take_append_drop->eW,mem_append->dJ,mem_of_getElem?->e0,mem_map->dS,mem_range->en,length_range->fQ,not_mem_nil->fI,drop_eq_getElem_cons->iK,length_take->gh,lookup_cons->gf,length_drop->gv,nodup_cons->f9,map_append->gq,getElem?_append_right->kN,pairwise_cons->h7,mem_cons_of_mem->jc,eq_nil_of_length_eq_zero->mW,getElem?_append_left->lY,pairwise_iff_getElem->nj,find?_cons->iW,nodup_nil->iy,nil_append->iC,map_map->g8,mem_of_mem_drop->lU,all_eq_true->j_,drop_of_length_le->nq,perm_iff_count->lM,flatMap_cons->k_,length_singleton->mD,map_drop->iV,map_take->iB,mem_cons_self->lP,getElem?_drop->mc,getElem?_set_ne->nu,mem_of_mem_take->nO,mem_iff_getElem->mx,foldl_cons->lh,getElem?_take->m_,count_append->nh,length_pos_iff->oE,drop_zero->mv,getElem?_eq_none->qL,getElem?_zip_eq_some->tj,getElem_drop->o9,ext_getElem?->oY,filterMap_cons->pY,map_congr_left->qi,mem_map_of_mem->p3,drop_drop->mO,any_eq_true->od,getElem?_set_self->rU,any_cons->m5,getElem?_toArray->uv,take_sublist->p8,getElem?_of_mem->sh,nodup_range->ro,take_length->q4,filterMap_cons_some->x3,count_cons->rA,mem_filterMap->tE,getElem?_cons_zero->w5,getElem?_cons_succ->wg,length_eq_zero_iff->xv,getElem_take->sD,take_of_length_le->y0,drop_take->q5,drop_sublist->uG,set_set->o3,take_succ_eq_append_getElem->CU,foldl_append->sJ,eraseIdxIfInBounds_toArray->zM,contains_iff_mem->wc,cons_append->rW,getElem_mem->uO,any_toArray->sv,mem_flatMap->sX,mem_erase_of_ne->vY,length_eraseIdx->xH,map_eq_cons_iff->vU,mem_filter->sE,length_set->uK,length_nil->u0,getElem?_range->wz,lookup_append->xD,take_take->u2,setIfInBounds_toArray->Dh,zip_cons_cons->wR,length_eraseIdx_of_lt->Et,mem_of_find?_eq_some->E2,mem_of_mem_eraseIdx->Cp,drop_length->vX,ext_getElem->w2,any_map->s_,of_mem_zip->ye,length_filter_le->CQ,pairwise_append->DT,take_zero->vK,extract_toArray->EM,perm_cons_erase->C6,set_comm->v5,set_cons_zero->C4,zip_nil_right->FC,map_filterMap->CM,all_map->w7,getElem?_set->Bt,getElem_inj->Ab,map_toArray->D7,getElem_map->Cz,countP_cons->AV,filter_cons->Dc,forIn_cons->zR,length_zip->Eg,find?_some->B8,range_succ->A5,zip_append->z2,map_nil->DS,not_lt->Ec,map_id->zG
open PySem.Heap renaming get?_push_of_some->cg,get?_push_size->dh,lt_size->ck,get?_update_other->hP,get?_update_self->ml,size_push->iF,get?_none_of_le->yg
open Nat renaming le_refl->bl,ne_of_lt->cR,lt_of_lt_of_le->ef,le_trans->dx,lt_or_ge->gF,zero_le->gP,lt_irrefl->ij,lt_succ_self->k6,le_of_ble_eq_true->pL,ne_of_gt->kD,le_of_lt->lD,mod_lt->jV,lt_trichotomy->qf,le_of_lt_succ->rh,add_assoc->oV,add_lt_add_iff_right->vx,not_lt_zero->qA,lt_of_le_of_lt->ug,lt_trans->pC,lt_of_succ_lt_succ->yD,le_add_right->uU,min_eq_left->rJ,succ_pos->rl,not_lt->oI,lt_add_of_pos_right->AJ,eq_of_beq_eq_true->Gz,le_succ->si,eq_zero_or_pos->Cs,le_succ_of_le->Gm,add_comm->yp,zero_add->vc,lt_succ_of_le->Cy,succ_le_succ->DA,add_mod_mod->A1,le_of_eq->BW,add_zero->B2,sub_self->Gs,min_self->FX,sub_zero->ze,mul_succ->Cw,mod_mod->zp
open PySem.W renaming kasC_pure->a8,kasC_bind->a_,kasC_range->fu,mg_none_of->kK,kasC_modify->kn,mg_of->mT,kasC_get->jj,plainGet_of->yh,kasC_lift->nI,callWith_K->vg,cellsFrom_some->Gb,kat_item->r5,kas_swaps_map->AZ,kat_kind->w1
open Bool renaming and_eq_true->cC,false_ne_true->c4,false_eq_true->gE,eq_iff_iff->iX,not_true->pg,not_eq_true'->t9,or_eq_true->rQ,and_true->vG,and_false->Gu,false_or->E0,or_false->CY,true_or->Fx,or_true->zK
open Array renaming length_toList->c6,getElem?_toList->eg,getElem?_eq_getElem->i5,getElem?_eq_some_iff->nU,ext'->jU,forIn_toList->uJ,getElem?_eq_none->xX,toList_filterMap->wb,mem_toList_iff->vV,getD_eq_getD_getElem?->BD,perm_iff_toList_perm->By,toList_push->yO,getElem_toList->zZ,size_map->xa,toList_inj->El
open List.Perm renaming append_left->dp,append_right->eo,map->t8,eq_of_pairwise->K_
open Prod renaming ext->dK
open PySem.Around renaming under_plainId->ke
open PyProof.Rows renaming slot_tuple_getitem->pE,callWith_type1->yv,callWith_builtin1->Fd,assignInOrder_cons->xM,subscriptTail_builtinR->CJ,entry_list_sort->xo,slot_list_sort->yw,args_list_sort->yj,entry_tuple_getitem->CC,args_tuple_getitem->Ed,assignInOrder_nil->FV,plain_sorted->vf,entry_sorted->yA,args_sorted1->yV,kind_sorted->w_,get?_update_seq->AI,slicePart_none->EO,elem'_eq->rZ,tupleItemsOf_->Eu,listUpdate_at->Be,tail_any->xu,lt_int->Mc,gt_int->IK
open PySem.F renaming plainAttrs_list->nc,slot_dict_keyiterator_next->qo,called_set->md,slot_list_append->s8,type_list_append->uB,slot_tuple_hash->p_,args_tuple_add_2->vy,slot_list_getattribute->vA,entry_tuple_add->yk,slot_tuple_add->ym,args_dict_keyiterator_next_1->z9,entry_dict_keyiterator_next->EW,slot_dict_getitem->z1,plain_extend_loop->CK,slot_list_extend->AX,type_list_extend->Eb,plain_list_iadd->CV,plain_set_new->AN,slot_set_iter->CW,args_list_append_2->Ag,entry_list_append->Av,slot_list_append->zj,slot_dict_iter->zH
open PySem.PassesOwn renaming never->jZ
open Ne renaming symm->eH
open PySem.Heap.SameBut renaming update->mC
open Int renaming emod_lt_of_pos->nP,emod_nonneg->l1,toNat_natCast->qg,le_refl->lN,le_trans->w4,not_lt->wV,zero_add->zD,mul_one->C1
open PyProof.Rows.F renaming plain_set_update_loop->yK,entry_set_update_loop->Fs
open Classical renaming byContradiction->uT
open PySem.Calls renaming call_function_entry->yQ,Name_function_global->DU,spliced_cons->Fy,spliced_nil->F4
open PySem.Obj renaming data_mapFields->ur,isFreed_of_fields->Ba,cls_mapFields->Gq
open PySem.AutoSeq1 renaming sub_tuple_tuple->B7
open PySem.SetTable renaming toList_insertAt->EE
open List.Pairwise renaming sublist->AO,map->DX,imp_of_mem->JQ,filterMap->Oj,filter->Jl,imp₂->Lh
open PySem.W.Looks renaming of_pure->v8,here->PQ
open Prod.mk renaming injEq->xR
open PySem.SeqAt.EqAt renaming int_str->Ct,str_int->Bh,none_tuple->Hh,bool_tuple->Pc,tuple_none->Lo,tuple_bool->NR,none_bool->IF,bool_none->M3,bool_bool->HK,int_tuple->Lw,str_tuple->Pp,tuple_int->PE,tuple_str->OU,none_int->GO,none_str->Ra,bool_int->L0,bool_str->ID,int_none->Oz,int_bool->PT,str_none->OD,str_bool->MY,int_int->P_,str_str->MI,of_refs->Hi
open PySem.SeqAt.RcAt renaming tuples->CN,lists_lengths->Hn,none_tuple->MJ,bool_tuple->Ho,tuple_none->QK,tuple_bool->Qb,none_none->Lk,none_bool->QE,bool_none->Jh,bool_bool->NN,int_tuple->JK,str_tuple->HS,tuple_int->HH,tuple_str->I4,none_int->KG,none_str->Nj,bool_int->PA,bool_str->Pm,int_none->Ig,int_bool->Ie,str_none->GQ,str_bool->He,int_int->NY,int_str->Jm,str_int->Jz,str_str->P6,lists->O1
open PySem.IsL renaming update->BI
open PySem.SeqAt.RcNeAt renaming lists_lengths->KI,none_tuple->Mm,bool_tuple->Mi,tuple_none->Ku,tuple_bool->Lr,none_none->O9,none_bool->Qc,bool_none->Pn,bool_bool->Qu,int_tuple->OQ,str_tuple->Hf,tuple_int->Lx,tuple_str->OY,none_int->Rk,none_str->Ka,bool_int->NL,bool_str->IW,int_none->L7,int_bool->Nu,str_none->HY,str_bool->ND,int_int->I2,int_str->LP,str_int->LX,str_str->GJ,tuples->JJ,lists->MR
open List.Sublist renaming append_left->Oi
open PySem.Within renaming cons->Nn
open PySem renaming Scope->gV,Str->au,Env->ee,Heap->aV,Value->ab,Addr->ag,CmpOp->kv,Sem->c8,Stmt->bI,Expr->bj,Obj->a3,Shared->ah,Around->bf,World->a7,Program->bp,Builtin->bq,cLine->bD,model->aM,isInstance->yT,Tok->gJ,Paired->dC,sysModules->jA,mainGlobals->d1,builtinsNs->uP,bootBuiltins->gm,GenState->sa,Model->fX,eval->bK,isTrue->tS,backTo->ez,starEach->bC,swapsWith->nN,assign->jC,assignInOrder->vL,assignEach->gB,setItem->ri,swapsWithSole->r4,swappedStores->tg,bindName->tZ,PassesOwn->n2,pyNext->fz,letOwnedTupleGo->uD,pyIter->nA,rawInt->eS,Walks->jx,foldedSetIterable->nd,Operator->xx,binaryOp->fH,compareOp->ej,behindInMarks->n6,DictEntry->x2,getMethod->rf,Result->mA,attributeBase->kV,recursionLimit->Gw,Code->hE,FuncData->fY,BindsTo->l7,bindArgs->jD,backToKw->pT,keywordEach->q_,Keyword->qd,NameKind->cP,cellsFrom->vI,richCompare->nB,IsPart->jQ,getItem->mg,typeLookup->xj,seqIndex?->wx,sliceBounds->mS,valueAt->mU,atKey->i6,Params->t4,callerA->m3,cellOf->uu,compEnvC->sR,newFunctionEnv->AK,comprehension->DG,newList->qs,setField->xl,newExc->uE,newTuple->wF,firstArgMember->tV,shortFactorBits->uk,checkCount->y2,getattributeRaised->EC,entryFor->nX,table->pM,argsOk->pZ,seqItems?->oJ,updateSeq->tn,PyData->qk,SetTable->aP,hashByValue->sr,ofAClassStatement->rO,searchCouldBeSeen->FE,carriedByValue->Bs,setSearchFrom->C7,drawOrder->wt,setNext->lA,setEntries->tC,pickOrder->iN
open Bool renaming true->aa,false->ay
open Option renaming some->Z,none->V
open PyProof.Rows renaming IsTup->m8,AllBare->k7,envOfC->h5,subscriptTail->zt,IntsAre->q8,bubble->qH,SortKind->gd,Keyed->ba,SortSt->bk,pendingOf->g9,failedOf->hs,mergeAt'->ta,ltAt'->m2,reverseSlice'->p5,seqObj->e8,keyKind'->xB,tuples'->oA
open PySem.W renaming WData->rB,WShape->pR,kas_rev->lZ,kas_cmp->eK,kas_item->a9,kas_st->tM,Frag->Φ,fnOf->Ψ,nsIn->Ξ,findIn->Θ,keepIn->Δ,emptyDict->Γ,instObj->Ω,codeIn->Φa,isFn->Φb,lookIn->Φc,plainGet->Φd,methodObj->Φe,hasDictIn->Φf,takerIn->Φg,makesIn->Φh
open PySem
abbrev aD:=@if_pos
abbrev aG:=@if_neg
abbrev fi:=@decide_eq_true_iff
abbrev er:=@decide_eq_true
abbrev fK:=@of_decide_eq_true
abbrev eX:=@decide_eq_false
abbrev gX:=@beq_self_eq_true
abbrev lS:=@beq_eq_false_iff_ne
abbrev fl:=@if_false
abbrev iQ:=@beq_iff_eq
abbrev hz:=@or_false
abbrev ia:=@if_true
abbrev yZ:=@decide_eq_false_iff_not
abbrev sq:=@decide_eq_true_eq
abbrev vF:=@decide_eq_decide
variable{Sj:Sort _}{q:Prop}
def xE1{o:Sj->Prop}(d:∃g,o g)(n:∀g,o g->q):q:=have ⟨g,C⟩:=d;n g C
variable{SX:Sort _}
def xE2{o:Sj->SX->Prop}(d:∃g e,o g e)(n:∀g e,o g e->q):q:=have ⟨g,e,C⟩:=d;n g e C
variable{Tx:Sort _}
def xE3{o:Sj->SX->Tx->Prop}(d:∃g e p,o g e p)(n:∀g e p,o g e p->q):q:=have ⟨g,e,p,C⟩:=d;n g e p C
variable{Tz:Sort _}
def xE4{o:Sj->SX->Tx->Tz->Prop}(d:∃g e p x,o g e p x)(n:∀g e p x,o g e p x->q):q:=have ⟨g,e,p,x,C⟩:=d;n g e p x C
variable{TA:Sort _}
def xE5{o:Sj->SX->Tx->Tz->TA->Prop}(d:∃g e p x c,o g e p x c)(n:∀g e p x c,o g e p x c->q):q:=have ⟨g,e,p,x,c,C⟩:=d;n g e p x c C
variable{TB:Sort _}
def xE6{o:Sj->SX->Tx->Tz->TA->TB->Prop}(d:∃g e p x c F,o g e p x c F)(n:∀g e p x c F,o g e p x c F->q):q:=have ⟨g,e,p,x,c,F,C⟩:=d;n g e p x c F C
def xE9{b:Sort _}{Sn:Sort _}{f:Sort _}{o:Sj->SX->Tx->Tz->TA->TB->b->Sn->f->Prop}(d:∃g e p x c F L a r,o g e p x c F L a r)(n:∀g e p x c F L a r,o g e p x c F L a r->q):q:=have ⟨g,e,p,x,c,F,L,a,r,C⟩:=d;n g e p x c F L a r C
variable{g e:Prop}
def xA2(d:g/\e)(n:g->e->q):q:=n d.1 d.2
variable{p:Prop}
def xA3(d:g/\e/\p)(n:g->e->p->q):q:=n d.1 d.2.1 d.2.2
variable{x:Prop}
def xA4(d:g/\e/\p/\x)(n:g->e->p->x->q):q:=n d.1 d.2.1 d.2.2.1 d.2.2.2
variable{c:Prop}
def xA5(d:g/\e/\p/\x/\c)(n:g->e->p->x->c->q):q:=n d.1 d.2.1 d.2.2.1 d.2.2.2.1 d.2.2.2.2
variable{F:Prop}
def xA6(d:g/\e/\p/\x/\c/\F)(n:g->e->p->x->c->F->q):q:=n d.1 d.2.1 d.2.2.1 d.2.2.2.1 d.2.2.2.2.1 d.2.2.2.2.2
variable{L:Prop}
def xA7(d:g/\e/\p/\x/\c/\F/\L)(n:g->e->p->x->c->F->L->q):q:=n d.1 d.2.1 d.2.2.1 d.2.2.2.1 d.2.2.2.2.1 d.2.2.2.2.2.1 d.2.2.2.2.2.2
def xA8{a:Prop}(d:g/\e/\p/\x/\c/\F/\L/\a)(n:g->e->p->x->c->F->L->a->q):q:=n d.1 d.2.1 d.2.2.1 d.2.2.2.1 d.2.2.2.2.1 d.2.2.2.2.2.1 d.2.2.2.2.2.2.1 d.2.2.2.2.2.2.2
set_option linter.all false
set_option maxRecDepth 100000
namespace L2
open Spec PyProof.Rows
variable{So:gV}{S3 f:au}{RY Si:List au}{SS:List ee}{R7 d:aV}{aE S5:au->Option ab}{Ti:List (au×ab)}{ae SI R0 e g:ag}{SJ:kv}{F:ab->ab->c8 ab}{bU Td:List ag}{Th:List bI}{r v n a Sw:Nat}{L:Int->Int->Int}{Sz p c:bj}{U:List bj}{Q:Φ}{G:List (ag×a3)}{Sd:Pos}{h RV:ah}{B RW:ab->ah->Prop}{O:bf}{H:a7}{R4:bp}{I:ab}{Sk:List ab}
inductive X where
 | aX|aN (e:Bool)|int (a:Int)|str (f:au)|tup (E:List X)|fn (g:ag)|aT (E:List X)|fd (i:List ((Int×Int)×Int))
mutual
def X.beq:X->X->Bool
 |.aX,.aX=>aa
 |.aN g,.aN e=>g==e
 |.int a,.int r=>decide (a=r)
 |.str f,.str D=>decide (f=D)
 |.tup g,.tup e=>X.kX g e
 |.fn g,.fn e=>decide (g=e)
 |.aT g,.aT e=>X.kX g e
 |.fd g,.fd e=>decide (g=e)
 |_,_=>ay
def X.kX:List X->List X->Bool
 |[],[]=>aa
 |g::u,e::y=>X.beq g e&&X.kX u y
 |_,_=>ay
end
mutual
theorem X.beq_iff:∀g e:X,X.beq g e=aa↔g=e
 |.aX,e=>by cases e<;>simp[X.beq]
 |.aN g,e=>by cases e<;>simp[X.beq]
 |.int a,e=>by cases e<;>simp[X.beq]
 |.str f,e=>by cases e<;>simp[X.beq]
 |.tup f,e=>by
  cases e with
  |tup D=>rw[X.beq,X.vo f D];simp
  |_=>simp[X.beq]
 |.fn g,e=>by cases e<;>simp[X.beq]
 |.aT f,e=>by
  cases e with
  |aT D=>rw[X.beq,X.vo f D];simp
  |_=>simp[X.beq]
 |.fd g,e=>by cases e<;>simp[X.beq]
theorem X.vo:∀g e:List X,X.kX g e=aa↔g=e
 |[],e=>by cases e<;>simp[X.kX]
 |f::u,e=>by
  cases e with
  |nil=>simp[X.kX]
  |cons D y=>rw[X.kX,cC,X.beq_iff f D,X.vo u y];simp
end
noncomputable instance:DecidableEq X:=λg e=>decidable_of_iff (X.beq g e=aa) (X.beq_iff g e)
mutual
def c0(d:aV):X->ab->Prop
 |.aX,s=>s=.none
 |.aN e,s=>s=.bool e
 |.int a,s=>∃y,s=.int a y
 |.str f,s=>∃y,s=.str f y
 |.fn g,s=>s=.ref g
 |.aT _,s=>∃g,s=.ref g
 |.fd _,s=>∃g,s=.ref g
 |.tup E,s=>∃g m Sm v,s=.ref g/\d.get? g=Z m/\m.cls=.type "tuple" /\ m.data=.seq Sm v/\dg d E Sm.toList
def dg(d:aV):List X->List ab->Prop
 |[],T=>T=[]
 |x::E,T=>∃s u,T=s::u/\c0 d x s/\dg d E u
end
mutual
def X.key:Nat->X->Bool
 |_,.int _=>aa
 |_,.str _=>aa
 |v+1,.tup E=>X.keys v E
 |_,_=>ay
def X.keys:Nat->List X->Bool
 |_,[]=>aa
 |v,x::E=>X.key v x&&X.keys v E
end
mutual
def c3(H:a7):X->Int
 |.int a=>hashInt a
 |.str f=>hashStr H f
 |.tup E=>reduceHash (bq.Tuple.tupleHashOf<|hX H E)
 |_=>0
def hX(H:a7):List X->List Int
 |[]=>[]
 |x::E=>c3 H x::hX H E
end
mutual
def u7:X->Nat
 |.tup E=>i3 E+1
 |_=>1
def i3:List X->Nat
 |[]=>0
 |x::E=>u7 x+i3 E
end
theorem xG(H:a7):∀g e:List X,hX H (g++e)=hX H g++hX H e
 |[],e=>rfl
 |x::g,e=>by rw[rW,hX,hX,xG H g e,rW]
theorem wu:∀g e:List X,i3 (g++e)=i3 g+i3 e
 |[],e=>by simp[i3]
 |x::g,e=>by rw[rW,i3,i3,wu g e];lia
theorem AP{v:Nat}:∀{g e:List X},X.keys v (g++e)=aa->X.keys v e=aa
 |[],e,d=>d
 |x::g,e,d=>by rw[rW,X.keys,cC]at d;exact AP d.2
theorem dg.length{d:aV}:∀{E:List X}{T:List ab},dg d E T->E.length=T.length
 |[],T,c=>by rw[show T=[] from c];rfl
 |x::E,T,c=>by
  let⟨s,@u,rfl,W,c⟩:=c;rw[dA,dA,dg.length c]
def sO(d RU:aV):Prop:=(∀g m Sm v,d.get? g=Z m->m.cls=.type "tuple" -> m.data=.seq Sm v->RU.get? g=Z m)
mutual
theorem c0.keep{d RU:aV}(n:sO d RU):∀{x:X}{s:ab},c0 d x s->c0 RU x s
 |.aX,_,c=>c
 |.aN _,_,c=>c
 |.int _,_,c=>c
 |.str _,_,c=>c
 |.fn _,_,c=>c
 |.aT _,_,c=>c
 |.fd _,_,c=>c
 |.tup E,_,c=>by
  let⟨g,m,Sm,@v,rfl,t,A,a,b⟩:=c;exact⟨g,m,Sm,v,rfl,n g m Sm v t A a,A,a,dg.keep n b⟩
theorem dg.keep{d RU:aV}(n:sO d RU):∀{E:List X}{T:List ab},dg d E T->dg RU E T
 |[],_,c=>c
 |x::E,_,c=>by
  let⟨s,@u,rfl,t,A⟩:=c;exact⟨s,u,rfl,c0.keep n t,dg.keep n A⟩
end
theorem zW{d:aV}:∀(v:Nat) {f D:X}{s:ab},X.key v f=aa->X.key v D=aa->c0 d f s->c0 d D s->f=D
 |v,.int a,D,s,_,aY,h,b=>by
  let⟨@y,rfl⟩:=h;cases D with
  |int r=>let⟨@I,c⟩:=b;injection c with c;rw[c]
  |str C=>let⟨@I,c⟩:=b;cases c
  |tup E=>let⟨W,W,W,@W,c,W⟩:=b;cases c
  |_=>cases v<;>cases aY
 |v,.str C,D,s,_,aY,h,b=>by
  let⟨@y,rfl⟩:=h;cases D with
  |int r=>let⟨@I,c⟩:=b;cases c
  |str C=>let⟨@I,c⟩:=b;injection c with c;rw[c]
  |tup E=>let⟨W,W,W,@W,c,W⟩:=b;cases c
  |_=>cases v<;>cases aY
 |v+1,.tup E,D,s,p,aY,h,b=>by
  let⟨g,m,Sm,@i,rfl,t,A,w,z⟩:=h;cases D with
  |int r=>let⟨@I,c⟩:=b;cases c
  |str C=>let⟨@I,c⟩:=b;cases c
  |tup U=>
   let⟨H,SG,J,@L,c,o,N,j,B⟩:=b;cases c;rw[t]at o;cases o;rw[w]at j;injection j with j _;subst j;have all:∀(E U:List X) (T:List ab),X.keys v E=aa->X.keys v U=aa->dg d E T->dg d U T->E=U:=by
    intro E;induction E with
    |nil=>
     intro U T W W g e;cases U with
     |nil=>rfl
     |cons c U=>let⟨W,@W,q,W⟩:=e;rw[show T=[] from g]at q;cases q
    |cons x E F=>
     intro U T k l g e;let⟨s,@u,rfl,G,S1⟩:=g;cases U with
     |nil=>cases (show s::u=[] from e)
     |cons c U=>
      let⟨O,@SW,q,bA,b0⟩:=e;cases q;rw[X.keys,cC]at k l;rw[zW v k.1 l.1 G bA,F U u k.2 l.2 S1 b0]
   rw[all E U _ p aY z B]
  |_=>cases aY
 |_,.aX,_,_,n,_,_,_=>by cases ‹Nat›<;>cases n
 |_,.aN _,_,_,n,_,_,_=>by cases ‹Nat›<;>cases n
 |_,.fn _,_,_,n,_,_,_=>by cases ‹Nat›<;>cases n
 |_,.aT _,_,_,n,_,_,_=>by cases ‹Nat›<;>cases n
 |_,.fd _,_,_,n,_,_,_=>by cases ‹Nat›<;>cases n
 |0,.tup _,_,_,n,_,_,_=>by cases n
section
variable{R3:bp}{H:a7}
theorem Gx:∀(v:Nat) {O:bf}{RW:ab->ah->Prop}{h:ah}{x:X}{s:ab}{B:Int->ah->Prop},X.key v x=aa->O.units+v<bD->c0 h.heap x s->B (c3 H x) {h with toks:=h.toks+u7 x}->
  wpAny (aM R3 H) O (pyHash s) B RW h
 |v,O,RW,h,.int a,s,B,_,_,b,d=>by
  let⟨@y,rfl⟩:=b;exact E1 d
 |v,O,RW,h,.str a,s,B,_,_,b,d=>by
  let⟨@y,rfl⟩:=b;exact Gr d
 |v+1,O,RW,h,.tup E,s,B,n,A,b,d=>by
  let⟨g,m,Sm,@i,rfl,p,w,z,RT⟩:=b;have j:h.TypeIs (.ref g) "tuple" := ⟨m,p,w⟩;unfold pyHash;first|unfold pyHashByItsType|skip
  first|refine aw (wpAny_cRoomFor_or (.inr ⋯) ?_)|skip
  refine aw (qx j p_.lookup ?_);show wpAny _ _ (if (Z (ab.builtin "tuple.__hash__")==Z ab.none)=aa then _ else _) B RW h;rw[aG (by rw[beq_builtin_none];exact c4)];refine aw (qx j p_.lookup ?_);show wpAny _ _ (callSpecialIfBoundUnlessNone? (.ref g) "__hash__" _ >>= _) B RW h;refine aw (wpAny_callSpecialIfBoundUnlessNone?_slot j p_<|i0 p_ j F.entry_tuple_hash ?_<|F.args_tuple_hash_1 _);show wpAny _ _ (bq.Tuple.tupleItemsOf (.ref g) >>= _) _ _ h;refine aw (wpAny_tupleItemsOf p z ?_);refine aw ?_;rw[<-uJ];refine lR _
   (λcK (e:Array Int) RV=>∃done left,E=done++left/\dg h.heap left cK/\e.toList=hX H done/\RV={h with toks:=h.toks+i3 done})
   _ ?_ ?_ _ _ ⟨[],E,rfl,RT,rfl,rfl⟩
  ·rintro f cK e RV ⟨done,left,rfl,k,l,rfl⟩;cases left with
   |nil=>cases (show f::cK=[] from k)
   |cons x left=>
    let⟨s,@u,c,t,q⟩:=k;cases c;have r:=AP (g:=done) (show X.keys v (done++x::left)=aa from n);rw[X.keys,cC]at r;refine aw (Gx v r.1 (by show O.units+1+v<bD;lia) t ?_);first
     | exact aR ⟨done++[x],left,by simp,q,by simp[l,xG,hX],by simp[wu,i3,oV]⟩
     | exact aw (aR (aR ⟨done++[x],left,by simp,q,by simp[l,xG,hX],by simp[wu,i3,oV]⟩))
  ·rintro e RV ⟨done,left,rfl,k,l,rfl⟩;cases left with
   |cons x left=>let⟨W,@W,c,W⟩:=k;cases c
   |nil=>
   rw[bR]at d;show wpAny _ _ (retInt<|bq.Tuple.tupleHashOf e.toList) _ _ _;rw[l];refine wpAny_ret_mkInt ?_;show wpAny _ _ (if (decide (-(2:Int)^63<=bq.Tuple.tupleHashOf (hX H done))&&decide (bq.Tuple.tupleHashOf (hX H done)<2^63))=aa then _ else _) B RW _;rw[c3,u7]at d;unfold reduceHash at d;by_cases o:(decide (-(2:Int)^63<=bq.Tuple.tupleHashOf (hX H done))&&decide (bq.Tuple.tupleHashOf (hX H done)<2^63))=aa
   ·rw[aD o];rw[aD o]at d;exact aR (by simpa [oV] using d)
   ·rw[aG o];rw[aG o]at d;exact aw (jy (aR (by simpa [oV] using d)))
 |_,_,_,_,.aX,_,_,n,_,_,_=>by cases ‹Nat›<;>cases n
 |_,_,_,_,.aN _,_,_,n,_,_,_=>by cases ‹Nat›<;>cases n
 |_,_,_,_,.fn _,_,_,n,_,_,_=>by cases ‹Nat›<;>cases n
 |_,_,_,_,.aT _,_,_,n,_,_,_=>by cases ‹Nat›<;>cases n
 |_,_,_,_,.fd _,_,_,n,_,_,_=>by cases ‹Nat›<;>cases n
 |0,_,_,_,.tup _,_,_,n,_,_,_=>by cases n
mutual
def b3:X->X->Bool
 |.aX,.aX=>aa
 |.aN g,.aN e=>g==e
 |.aN g,.int r=>(if g then 1 else 0)==r
 |.int a,.aN e=>a==(if e then 1 else 0)
 |.int a,.int r=>a==r
 |.str f,.str D=>f==D
 |.tup g,.tup e=>e1 g e
 |_,_=>ay
def e1:List X->List X->Bool
 |[],[]=>aa
 |g::u,e::y=>b3 g e&&e1 u y
 |_,_=>ay
end
mutual
def X.a5:Nat->X->Bool
 |_,.aX=>aa
 |_,.aN _=>aa
 |_,.int _=>aa
 |_,.str _=>aa
 |v+1,.tup E=>X.c5 v E
 |_,_=>ay
def X.c5:Nat->List X->Bool
 |_,[]=>aa
 |v,x::E=>X.a5 v x&&X.c5 v E
end
theorem jo{v:Nat}:∀{E:List X}{r:Nat}{x:X},X.c5 v E=aa->E[r]?=Z x->X.a5 v x=aa
 |[],r,x,_,d=>by simp at d
 |c::E,0,x,n,d=>by
  rw[X.c5,cC]at n;simp at d;subst d;exact n.1
 |c::E,r+1,x,n,d=>by
  rw[X.c5,cC]at n;exact jo n.2 ⇑d
theorem dg.get{d:aV}:∀{E:List X}{T:List ab}{r:Nat}{s:ab},dg d E T->T[r]?=Z s->∃x,E[r]?=Z x/\c0 d x s
 |[],T,r,s,g,c=>by rw[show T=[] from g]at c;simp at c
 |x::E,T,0,s,g,c=>by
  let⟨I,@u,rfl,a,S1⟩:=g;simp at c;subst c;exact⟨x,rfl,a⟩
 |x::E,T,r+1,s,g,c=>by
  let⟨I,@u,rfl,a,S1⟩:=g;let⟨@b,t,A⟩:=dg.get (r:=r) S1 ⇑c;exact⟨b,by simpa using t,A⟩
theorem Dr{d:aV}:∀(v:Nat) {f D:X}{s:ab},X.a5 v f=aa->X.a5 v D=aa->c0 d f s->c0 d D s->b3 f D=aa
 |v,.aX,D,s,_,aY,h,b=>by
  cases (show s=.none from h);cases D with
  |aX=>rfl
  |aN e=>cases b
  |int r=>let⟨@I,c⟩:=b;cases c
  |str C=>let⟨@I,c⟩:=b;cases c
  |tup E=>let⟨W,W,W,@W,c,W⟩:=b;cases c
  |fn g=>cases v<;>cases aY
  |aT g=>cases v<;>cases aY
  |fd=>cases v<;>cases aY
 |v,.aN e,D,s,_,aY,h,b=>by
  cases (show s=.bool e from h);cases D with
  |aX=>cases b
  |aN p=>cases b;simp[b3]
  |int r=>let⟨@I,c⟩:=b;cases c
  |str C=>let⟨@I,c⟩:=b;cases c
  |tup E=>let⟨W,W,W,@W,c,W⟩:=b;cases c
  |fn g=>cases v<;>cases aY
  |aT g=>cases v<;>cases aY
  |fd=>cases v<;>cases aY
 |v,.int a,D,s,_,aY,h,b=>by
  let⟨@y,rfl⟩:=h;cases D with
  |aX=>cases b
  |aN p=>cases b
  |int r=>let⟨@I,c⟩:=b;cases c;simp[b3]
  |str C=>let⟨@I,c⟩:=b;cases c
  |tup E=>let⟨W,W,W,@W,c,W⟩:=b;cases c
  |fn g=>cases v<;>cases aY
  |aT g=>cases v<;>cases aY
  |fd=>cases v<;>cases aY
 |v,.str a,D,s,_,aY,h,b=>by
  let⟨@y,rfl⟩:=h;cases D with
  |aX=>cases b
  |aN p=>cases b
  |int r=>let⟨@I,c⟩:=b;cases c
  |str C=>let⟨@I,c⟩:=b;cases c;simp[b3]
  |tup E=>let⟨W,W,W,@W,c,W⟩:=b;cases c
  |fn g=>cases v<;>cases aY
  |aT g=>cases v<;>cases aY
  |fd=>cases v<;>cases aY
 |v+1,.tup E,D,s,w,aY,h,b=>by
  let⟨g,m,Sm,@i,rfl,t,A,z,B⟩:=h;cases D with
  |aX=>cases b
  |aN p=>cases b
  |int r=>let⟨@I,c⟩:=b;cases c
  |str C=>let⟨@I,c⟩:=b;cases c
  |fn g=>cases aY
  |aT g=>cases aY
  |fd=>cases aY
  |tup U=>
   let⟨J,SG,L,@M,c,o,N,j,F⟩:=b;cases c;rw[t]at o;cases o;rw[z]at j;injection j with j _;subst j;have all:∀(E U:List X) (T:List ab),X.c5 v E=aa->X.c5 v U=aa->dg d E T->dg d U T->e1 E U=aa:=by
    intro E;induction E with
    |nil=>
     intro U T W W g e;cases U with
     |nil=>rfl
     |cons c U=>let⟨W,@W,q,W⟩:=e;rw[show T=[] from g]at q;cases q
    |cons x E G=>
     intro U T k l g e;let⟨s,@u,rfl,H,S1⟩:=g;cases U with
     |nil=>cases (show s::u=[] from e)
     |cons c U=>
      let⟨O,@SW,q,bA,b0⟩:=e;cases q;rw[X.c5,cC]at k l;rw[e1,Dr v k.1 l.1 H bA,G U u k.2 l.2 S1 b0];rfl
   rw[b3];exact all E U _ w aY B F
 |v,.fn _,_,_,n,_,_,_=>by cases v<;>cases n
 |v,.aT _,_,_,n,_,_,_=>by cases v<;>cases n
 |v,.fd _,_,_,n,_,_,_=>by cases v<;>cases n
 |0,.tup _,_,_,n,_,_,_=>by cases n
def rF{c:Nat->Bool}:∀{E U:List X},(∀(r:Nat) (f D:X),E[r]?=Z f->U[r]?=Z D->c r=b3 f D)->((range<|min E.length U.length).all c&&E.length==U.length)=e1 E U:=by
 have M:∀(E U:List X) (F:Nat->Bool),(∀(r:Nat) (f D:X),E[r]?=Z f->U[r]?=Z D->F r=b3 f D)->((range<|min E.length U.length).all F&&E.length==U.length)=e1 E U:=by
  intro E;induction E with
  |nil=>intro U F W;cases U<;>simp[e1]
  |cons x E a=>
   intro U F d;cases U with
   |nil=>simp[e1]
   |cons p U=>
    have:=a U (λr=>F<|r+1) λr f D g e=>d (r+1) f D ⇑g ⇑e;rw[e1,<-this,<-d 0 x p rfl rfl];rw[dA,dA,show min (E.length+1) (U.length+1)=min E.length U.length+1 by lia,List.range_succ_eq_map,List.all_cons,w7,Bool.and_assoc];congr 2;rw[iX];simp
 exact λ{E U} d=>M E U c d
theorem iw{h:ah}:∀(v:Nat) {O:bf}{f D:X}{I s:ab},X.a5 v f=aa->X.a5 v D=aa->O.units+v+1<bD->c0 h.heap f I->c0 h.heap D s->SeqAt.EqAt O h I s (b3 f D)
 |v,O,.aX,D,I,s,_,aY,l,j,b=>by
  cases (show I=.none from j);cases D with
  |aX=>cases (show s=.none from b);exact SeqAt.EqAt.same _
  |aN e=>cases (show s=.bool e from b);exact IF e
  |int r=>let⟨@y,rfl⟩:=b;exact GO r y
  |str C=>let⟨@y,rfl⟩:=b;exact Ra C y
  |tup E=>let⟨g,m,Sm,@i,rfl,t,A,k,W⟩:=b;exact Hh ⟨m,t,A,i,k⟩ ⋯
  |fn g=>cases v<;>cases aY
  |aT g=>cases v<;>cases aY
  |fd=>cases v<;>cases aY
 |v,O,.aN e,D,I,s,_,aY,l,j,b=>by
  cases (show I=.bool e from j);cases D with
  |aX=>cases (show s=.none from b);exact M3 e
  |aN p=>cases (show s=.bool p from b);exact HK e p
  |int r=>let⟨@y,rfl⟩:=b;exact L0 e r y
  |str C=>let⟨@y,rfl⟩:=b;exact ID e C y
  |tup E=>let⟨g,m,Sm,@i,rfl,t,A,k,W⟩:=b;exact Pc e ⟨m,t,A,i,k⟩ ⋯
  |fn g=>cases v<;>cases aY
  |aT g=>cases v<;>cases aY
  |fd=>cases v<;>cases aY
 |v,O,.int a,D,I,s,_,aY,l,j,b=>by
  let⟨@d,rfl⟩:=j;cases D with
  |aX=>cases (show s=.none from b);exact Oz a d
  |aN p=>cases (show s=.bool p from b);exact PT a d p
  |int r=>let⟨@y,rfl⟩:=b;exact P_ a d r y
  |str C=>let⟨@y,rfl⟩:=b;exact Ct a d C y
  |tup E=>let⟨g,m,Sm,@i,rfl,t,A,k,W⟩:=b;exact Lw a d ⟨m,t,A,i,k⟩ ⋯
  |fn g=>cases v<;>cases aY
  |aT g=>cases v<;>cases aY
  |fd=>cases v<;>cases aY
 |v,O,.str a,D,I,s,_,aY,l,j,b=>by
  let⟨@d,rfl⟩:=j;cases D with
  |aX=>cases (show s=.none from b);exact OD a d
  |aN p=>cases (show s=.bool p from b);exact MY a d p
  |int r=>let⟨@y,rfl⟩:=b;exact Bh a d r y
  |str C=>let⟨@y,rfl⟩:=b;exact MI a d C y
  |tup E=>let⟨g,m,Sm,@i,rfl,t,A,k,W⟩:=b;exact Pp a d ⟨m,t,A,i,k⟩ ⋯
  |fn g=>cases v<;>cases aY
  |aT g=>cases v<;>cases aY
  |fd=>cases v<;>cases aY
 |v+1,O,.tup E,D,I,s,u,aY,l,j,b=>by
  have H:=j;let⟨g,m,Sm,@i,rfl,t,A,k,w⟩:=j;have SP:h.heap.IsTuple g Sm:=⟨m,t,A,i,k⟩;cases D with
  |aX=>cases (show s=.none from b);exact Lo SP ⋯
  |aN p=>cases (show s=.bool p from b);exact NR p SP ⋯
  |int r=>let⟨@y,rfl⟩:=b;exact PE r y SP ⋯
  |str C=>let⟨@y,rfl⟩:=b;exact OU C y SP ⋯
  |fn g=>cases aY
  |aT g=>cases aY
  |fd=>cases aY
  |tup U=>
   have J:=b;let⟨e,SG,o,@L,rfl,M,N,P,x⟩:=b;by_cases c:g=e
   ·subst c;rw[Dr (v+1) u aY H J];exact SeqAt.EqAt.same _
   ·have S7:h.heap.IsTuple e o:=⟨SG,M,N,L,P⟩;have z:=w.length;have B:=x.length;have Q:Sm.toList.length=Sm.size:=by simp
    have R:o.toList.length=o.size:=by simp
    rw[Q]at z;rw[R]at B;have q:=Hi (A:=O) c (CN (e:=λr=>b3 (E.getD r .aX)<|U.getD r .aX) SP S7 ⋯ λr S T=>by
     let⟨@Sx,F,al⟩:=w.get (r:=r) (s:=Sm[r]) (by rw[eg];simp[S]);let⟨@SK,G,am⟩:=x.get (r:=r) (s:=o[r]) (by rw[eg];simp[T]);rw[ct,F,ct,G];exact iw v (jo u F) (jo aY G) (by show O.units+1+v+1<bD;lia) al am)
    rw[<-z,<-B,rF (E:=E) (U:=U) (λr f D g e=>by rw[ct,g,ct,e];rfl)]at q;rw[b3];exact q
 |v,O,.fn _,_,_,_,n,_,_,_,_=>by cases v<;>cases n
 |v,O,.aT _,_,_,_,n,_,_,_,_=>by cases v<;>cases n
 |v,O,.fd _,_,_,_,n,_,_,_,_=>by cases v<;>cases n
 |0,O,.tup _,_,_,_,n,_,_,_,_=>by cases n
mutual
theorem w9:∀{v:Nat}{x:X},X.key v x=aa->X.a5 v x=aa
 |v,.int _,_=>by cases v<;>rfl
 |v,.str _,_=>by cases v<;>rfl
 |v+1,.tup E,d=>by rw[X.key]at d;rw[X.a5];exact EK d
 |0,.tup _,d=>by cases d
 |v,.aX,d=>by cases v<;>cases d
 |v,.aN _,d=>by cases v<;>cases d
 |v,.fn _,d=>by cases v<;>cases d
 |v,.aT _,d=>by cases v<;>cases d
 |v,.fd _,d=>by cases v<;>cases d
theorem EK:∀{v:Nat}{E:List X},X.keys v E=aa->X.c5 v E=aa
 |v,[],_=>by rw[X.c5]
 |v,x::E,d=>by rw[X.keys,cC]at d;rw[X.c5,w9 d.1,EK d.2];rfl
end
mutual
theorem Bj:∀{v:Nat}{f D:X},X.key v f=aa->X.key v D=aa->b3 f D=decide (f=D)
 |v,.int a,D,_,b=>by
  cases D with
  |int r=>rw[b3];by_cases c:a=r<;>simp[c]
  |str C=>simp[b3]
  |tup C=>simp[b3]
  |_=>cases v<;>cases b
 |v,.str a,D,_,b=>by
  cases D with
  |int r=>simp[b3]
  |str C=>rw[b3];by_cases c:a=C<;>simp[c]
  |tup C=>simp[b3]
  |_=>cases v<;>cases b
 |v+1,.tup E,D,e,b=>by
  cases D with
  |int r=>simp[b3]
  |str C=>simp[b3]
  |tup U=>
   rw[X.key]at e b;rw[b3,GI e b];simp
  |_=>cases b
 |0,.tup _,_,d,_=>by cases d
 |v,.aX,_,d,_=>by cases v<;>cases d
 |v,.aN _,_,d,_=>by cases v<;>cases d
 |v,.fn _,_,d,_=>by cases v<;>cases d
 |v,.aT _,_,d,_=>by cases v<;>cases d
 |v,.fd _,_,d,_=>by cases v<;>cases d
theorem GI:∀{v:Nat}{f D:List X},X.keys v f=aa->X.keys v D=aa->e1 f D=decide (f=D)
 |v,[],D,_,_=>by cases D<;>simp[e1]
 |v,x::E,[],_,_=>by simp[e1]
 |v,x::E,c::U,a,b=>by
  rw[X.keys,cC]at a b;rw[e1,Bj a.1 b.1,GI a.2 b.2];by_cases t:x=c<;>by_cases A:E=U<;>simp[t,A]
end
theorem sH:∀(v:Nat) {O:bf}{RW:ab->ah->Prop}{h:ah}{x:X}{s:ab}{B:Bool->ah->Prop},X.key v x=aa->c0 h.heap x s->B aa h->wpAny (aM R3 H) O (eqIsQuiet v s) B RW h
 |v,O,RW,h,.int a,s,B,_,b,d=>by
  let⟨@y,rfl⟩:=b;rw[zx v rfl];exact aR d
 |v,O,RW,h,.str a,s,B,_,b,d=>by
  let⟨@y,rfl⟩:=b;rw[zx v rfl];exact aR d
 |v+1,O,RW,h,.tup E,s,B,n,b,d=>by
  let⟨g,m,Sm,@i,rfl,j,o,p,RT⟩:=b;have k:h.TypeIs (.ref g) "tuple" := ⟨m,j,o⟩;unfold eqIsQuiet;refine aw (qx k F.slot_tuple_eq.lookup ?_);show wpAny _ _ (yT (.ref g) (.type "tuple") >>= _) _ _ h;refine aw (sk k isSubtype_tuple_tuple ?_);simp only[pg,gE,fl];refine aw (k0 j p ?_);refine aw ?_;show wpAny _ _ (forIn Sm _ _) _ _ h;rw[<-uJ];rw[X.key]at n;refine lR _ (λcK u RV=>u.1=V/\RV=h/\∃left,X.keys v left=aa/\dg h.heap left cK) _ ?_ ?_ _ _ ⟨rfl,rfl,E,n,RT⟩
  ·rintro s cK u RV ⟨e,rfl,left,f,l⟩;cases left with
   |nil=>cases (show s::cK=[] from l)
   |cons x left=>
    let⟨r,@SW,c,t,q⟩:=l;cases c;rw[X.keys,cC]at f;refine aw (sH v f.1 t ?_);simp only[pg,gE,fl];exact aR ⟨rfl,rfl,left,f.2,q⟩
  ·rintro⟨w,z⟩ RV ⟨e,rfl,W⟩;simp only at e;subst e;exact aR d
 |_,_,_,_,.aX,_,_,n,_,_=>by cases ‹Nat›<;>cases n
 |_,_,_,_,.aN _,_,_,n,_,_=>by cases ‹Nat›<;>cases n
 |_,_,_,_,.fn _,_,_,n,_,_=>by cases ‹Nat›<;>cases n
 |_,_,_,_,.aT _,_,_,n,_,_=>by cases ‹Nat›<;>cases n
 |_,_,_,_,.fd _,_,_,n,_,_=>by cases ‹Nat›<;>cases n
 |0,_,_,_,.tup _,_,_,n,_,_=>by cases n
def dU(R3:bp)(H:a7):HeapKind R3 H (List X) where
 is:=λd E g=>X.keys 7 E=aa/\c0 d (.tup E) (.ref g)
 hash:=λE=>c3 H (.tup E)
 draws:=λE=>u7 (.tup E)
 room:=λO=>O.units+10<bD
 inj:=λa b=>by
  have:=zW 8 (f:=.tup _) (D:=.tup _) a.1 b.1 a.2 b.2;injection this
 keeps:=λ{d RU n g x m U Ss} f l o R6=>⟨f.1,f.2.keep λe I Sm v i r k=>by
  have p:e≠x:=by
   rintro rfl;rw[l]at i;cases i;rw[o]at k;cases k
  exact (R6.2 e p).trans i⟩
 pyHash:=λj c d=>Gx 8 (x:=.tup _) c.1 (show _<_ by have:_+10<bD:=j;lia) c.2 d
 eqBool:=λ{O RW h f D g e B} j a b d=>by
  have q:=iw (h:=h) 8 (O:=O) (f:=.tup f) (D:=.tup D) (w9 (v:=8) (x:=.tup f) a.1) (w9 (v:=8) (x:=.tup D) b.1) (show _<_ by have:O.units+10<bD:=j;lia) a.2 b.2;rw[Bj (v:=8) (f:=.tup f) (D:=.tup D) a.1 b.1]at q;exact q _ _ RW B ⇑d
 quiet:=λc d=>sH 8 (x:=.tup _) c.1 c.2 d
end
abbrev dX:=Sum Int au
def nY:dX->ab->Bool
 |.inl n,s=>ab.isInt n s
 |.inr f,s=>ab.isStrOf f s
def J3(H:a7):dX->Int
 |.inl n=>hashInt n
 |.inr f=>hashStr H f
theorem kz:∀{n:dX}{s:ab},nY n s=aa->(∃a y,n=Sum.inl a/\s=ab.int a y)\/(∃f y,n=Sum.inr f/\s=ab.str f y)
 |.inl a,s,d=>by
  let⟨@y,c⟩:=ab.isInt_shape (k:=a) (v:=s) d;exact .inl ⟨a,y,rfl,c⟩
 |.inr f,s,d=>by
  let⟨@y,c⟩:=ab.isStrOf_shape (x:=f) (v:=s) d;exact .inr ⟨f,y,rfl,c⟩
def JY(a:Int)(y:gJ):nY (.inl a) (.int a y)=aa:=by simp[nY,ab.isInt]
def Iv(f:au)(y:gJ):nY (.inr f) (.str f y)=aa:=by simp[nY,ab.isStrOf]
def Qe(g e:Int):decide ((Sum.inl g:dX)=Sum.inl e)=(g==e):=by
 by_cases c:g=e
 ·subst c;simp
 ·have d:¬ (Sum.inl g:dX)=Sum.inl e:=λq=>c (Sum.inl.inj q);rw[eX d];exact (lS.mpr c).symm
def JV(g e:au):decide ((Sum.inr g:dX)=Sum.inr e)=decide (g=e):=by
 by_cases c:g=e
 ·subst c;simp
 ·have d:¬ (Sum.inr g:dX)=Sum.inr e:=λq=>c (Sum.inr.inj q);rw[eX d,eX c]
def I1(g:Int)(e:au):decide ((Sum.inl g:dX)=Sum.inr e)=ay:=eX (λq=>nomatch q)
def Ly(g:au)(e:Int):decide ((Sum.inr g:dX)=Sum.inl e)=ay:=eX (λq=>nomatch q)
def mX(R3:bp)(H:a7):PySem.KeyKind R3 H dX where
 is:=nY
 hash:=J3 H
 inj:=λs g e j i=>by
  rcases kz j with ⟨a,y,rfl,rfl⟩|⟨f,y,rfl,rfl⟩
  ·rcases kz i with ⟨r,I,rfl,c⟩|⟨D,I,rfl,c⟩
   ·injection c with b _;rw[b]
   ·exact nomatch c
  ·rcases kz i with ⟨r,I,rfl,c⟩|⟨D,I,rfl,c⟩
   ·exact nomatch c
   ·injection c with b _;rw[b]
 byValue:=λn s d=>by
  rcases kz d with ⟨a,y,rfl,rfl⟩|⟨f,y,rfl,rfl⟩<;>rfl
 pyHash:=λh d=>by
  rcases kz h with ⟨a,y,rfl,rfl⟩|⟨f,y,rfl,rfl⟩
  ·exact E1 d
  ·exact Gr d
 eqBool:=λk h d=>by
  rcases kz k with ⟨a,y,rfl,rfl⟩|⟨f,y,rfl,rfl⟩
  ·rcases kz h with ⟨r,I,rfl,rfl⟩|⟨D,I,rfl,rfl⟩
   ·rw[Qe]at d;exact wpAny_eqBool_int d
   ·rw[I1]at d;exact Ct a y D I _ _ _ _ d
  ·rcases kz h with ⟨r,I,rfl,rfl⟩|⟨D,I,rfl,rfl⟩
   ·rw[Ly]at d;exact Bh f y r I _ _ _ _ d
   ·rw[JV]at d;exact wpAny_eqBool_str d
 «strs»:=λn f y s d=>by
  rcases kz d with ⟨a,I,rfl,c⟩|⟨D,I,rfl,c⟩
  ·exact nomatch c
  ·injection c with b _;subst b;cases s<;>rfl
def GN(R3:bp)(H:a7)(a:Int)(y:gJ):(mX R3 H).is (.inl a) (.int a y)=aa:=JY a y
def HB(R3:bp)(H:a7)(f:au)(y:gJ):(mX R3 H).is (.inr f) (.str f y)=aa:=Iv f y
inductive ao where
 | aX|aN (e:Bool)|int (a:Int)|str (f:au)|tf (e:Array UInt8)|sM (e:UInt64)|ref (g:ag)|ty (v:String)
 deriving DecidableEq
variable{T:List ao}{D s:ao}
def b2:ao->ab->Prop
 |.aX,I=>I=ab.none
 |.aN e,I=>I=ab.bool e
 |.int a,I=>∃y,I=ab.int a y
 |.str f,I=>∃y,I=ab.str f y
 |.tf e,I=>∃y,I=ab.bytes e y
 |.sM e,I=>∃y,I=ab.float e y
 |.ref g,I=>I=ab.ref g
 |.ty v,I=>I=ab.type v
abbrev bN:List ao->List ab->Prop:=dC b2
def bN.length{z:List ao}(u:bN z Sk):z.length=Sk.length:=dC.length u
theorem bN.get:∀{z:List ao}{Sk:List ab}{a:Nat}{f:ao},bN z Sk->z[a]?=Z f->∃I,Sk[a]?=Z I/\b2 f I
 |_,_,_,_,.nil,c=>by simp at c
 |_,_,0,_,.cons u _,c=>by simp at c;subst c;exact⟨_,rfl,u⟩
 |_,_,a+1,f,.cons _ y,c=>by
  let⟨@I,t,A⟩:=bN.get (a:=a) (f:=f) y ⇑c;exact⟨I,by simpa using t,A⟩
theorem bN.set{f:ao}{I:ab}(u:b2 f I):∀{z:List ao}{Sk:List ab} (a:Nat),bN z Sk->bN (z.set a f) (Sk.set a I)
 |_,_,_,.nil=>.nil
 |_,_,0,.cons _ y=>.cons u y
 |_,_,a+1,.cons q y=>.cons q (bN.set u a y)
theorem bN.append:∀{z Sh:List ao}{Sk Sq:List ab},bN z Sk->bN Sh Sq->bN (z++Sh) (Sk++Sq)
 |_,_,_,_,.nil,h=>h
 |_,_,_,_,.cons u y,h=>.cons u (bN.append y h)
theorem bN.take:∀{z:List ao}{Sk:List ab} (v:Nat),bN z Sk->bN (z.take v) (Sk.take v)
 |_,_,0,_=>.nil
 |_,_,_+1,.nil=>.nil
 |_,_,v+1,.cons u y=>.cons u (bN.take v y)
theorem bN.drop:∀{z:List ao}{Sk:List ab} (v:Nat),bN z Sk->bN (z.drop v) (Sk.drop v)
 |_,_,0,u=>u
 |_,_,_+1,.nil=>.nil
 |_,_,v+1,.cons _ y=>bN.drop v y
def gU:Option ao->Option ab->Prop
 |some s,Z I=>b2 s I
 |none,V=>True
 |_,_=>False
def fP{Sn:Type}:List (Sn×ao)->List (Sn×ab)->Prop:=(dC λ(o:Sn×ao) (q:Sn×ab)=>o.1=q.1/\b2 o.2 q.2)
def bW:dX->ao
 |.inl a=>.int a
 |.inr f=>.str f
inductive eZ where
 | lst (z:List ao)
 | tup (z:List ao)
 | dN (R9:List (dX×ao))|aO (R9:List (List X×ao))
 | set (Se:Int->Bool) (v:Nat)
 | ins (ae SI:ag) (ak:List (au×ao))
 | own (f:ag)
 | xA (ak:List (au×ao))
 | met (F f:ag)
 | nT (P RT:Int)
 | cM (m:a3) (I:eZ)
 | mE (RY:Array ab)
 | ext (RB:aV->Prop)
variable{m:eZ}
abbrev ax:=ag->Option eZ
variable{S j:ax}
def upd(j:ax)(g:ag)(m:eZ):ax:=(λe=>if e=g then Z m else j e)
def dV:upd j g m g=Z m:=by unfold upd;rw[aD rfl]
def b9(d:e≠g):upd j g m e=j e:=by unfold upd;rw[aG d]
def Dx{I:eZ}(d:j g=Z m)(RU:j e=Z I)(x:m≠I):g≠e:=by
 intro c;subst c;rw[d]at RU;exact x (Option.some.inj RU)
def jE(d:j g=Z m)(RU:j e=V):g≠e:=by
 intro c;subst c;rw[d]at RU;cases RU
mutual
def cq(j:ax):X->ao->Prop
 |.aX,s=>s=.aX
 |.aN e,s=>s=.aN e
 |.int a,s=>s=.int a
 |.str f,s=>s=.str f
 |.fn g,s=>s=.ref g
 |.aT E,s=>∃g z m,s=.ref g/\j g=Z (.cM m<|.lst z)/\bx j E z
 |.fd i,s=>∃g m P,s=.ref g/\j g=Z (.cM m<|.aO P)/\P=i.map λo=>([X.int o.1.1,X.int o.1.2],ao.int o.2)
 |.tup E,s=>∃g z,s=.ref g/\j g=Z (.tup z)/\bx j E z
def bx(j:ax):List X->List ao->Prop
 |[],T=>T=[]
 |x::E,T=>∃s u,T=s::u/\cq j x s/\bx j E u
end
def n3(j S:ax):Prop:=(∀g z,j g=Z (.tup z)->S g=Z (.tup z))
structure pB(j S:ax):Prop where
 t:n3 j S
 z:∀g m I,j g=Z (.cM m I)->S g=Z (.cM m I)
noncomputable instance {j S:ax}:CoeFun (pB j S) (λ_=>∀g z,j g=Z (.tup z)->S g=Z (.tup z)):=⟨λy=>y.t⟩
mutual
theorem cq.mono{j S:ax}(n:pB j S):∀{x:X}{s:ao},cq j x s->cq S x s
 |.aX,_,c=>c
 |.aN _,_,c=>c
 |.int _,_,c=>c
 |.str _,_,c=>c
 |.fn _,_,c=>c
 |.tup E,_,c=>by
  let⟨g,@z,rfl,t,A⟩:=c;exact⟨g,z,rfl,n.t g z t,bx.mono n A⟩
 |.aT E,_,c=>by
  let⟨g,z,@m,rfl,t,A⟩:=c;exact⟨g,z,m,rfl,n.z g _ _ t,bx.mono n A⟩
 |.fd i,_,c=>by
  let⟨g,m,@P,rfl,t,A⟩:=c;exact⟨g,m,P,rfl,n.z g _ _ t,A⟩
theorem bx.mono{j S:ax}(n:pB j S):∀{E:List X}{T:List ao},bx j E T->bx S E T
 |[],_,c=>c
 |x::E,_,c=>by
  let⟨s,@u,rfl,t,A⟩:=c;exact⟨s,u,rfl,cq.mono n t,bx.mono n A⟩
end
def gC(j:ax)(n:List X)(e:ag):Prop:=(X.keys 7 n=aa/\cq j (.tup n) (.ref e))
mutual
theorem cq.ps{j S:ax}(n:n3 j S):∀{x:X}{v:Nat}{s:ao},X.key v x=aa->cq j x s->cq S x s
 |.aX,_,_,_,c=>c
 |.aN _,_,_,_,c=>c
 |.int _,_,_,_,c=>c
 |.str _,_,_,_,c=>c
 |.fn _,_,_,_,c=>c
 |.tup E,v+1,_,q,c=>by
  let⟨g,@z,rfl,t,A⟩:=c;exact⟨g,z,rfl,n g z t,bx.ps n q A⟩
 |.tup E,0,_,q,c=>nomatch q
 |.aT E,0,_,q,c=>nomatch q
 |.aT E,v+1,_,q,c=>nomatch q
 |.fd _,0,_,q,c=>nomatch q
 |.fd _,v+1,_,q,c=>nomatch q
theorem bx.ps{j S:ax}(n:n3 j S):∀{E:List X}{v:Nat}{T:List ao},X.keys v E=aa->bx j E T->bx S E T
 |[],_,_,_,c=>c
 |x::E,v,_,q,c=>by
  let⟨s,@u,rfl,t,A⟩:=c;rw[X.keys,cC]at q;exact⟨s,u,rfl,cq.ps n q.1 t,bx.ps n q.2 A⟩
end
def gC.mono{n:List X}(d:gC j n e)(y:n3 j S):gC S n e:=by
 let@⟨a,⟨g,@z,c,t,A⟩⟩:=d;exact⟨a,g,z,c,y g z t,A.ps y a⟩
def l9(d:aV)(g:ag)(Sm:Array ab):Prop:=(∃m,d.get? g=Z m/\(m.cls,m.dict)=(.type "tuple",V)/\∃v,m.data=.seq Sm v)
def l9.tup{Sm:Array ab}(f:l9 d g Sm):m8 d g Sm:=let ⟨m,c,p,u⟩:=f;⟨m,c,(Prod.mk.inj p).1,u⟩
def l9.new(d:aV)(Sm:Array ab):l9 (d.push {cls:=.type "tuple",data:=.seq Sm}) d.objs.size Sm:=⟨_,dh _ rfl,rfl,_,rfl⟩
section
variable(R4:bp)(H:a7)
def d9(j:ax)(d:aV)(g:ag):eZ->Prop
 |.lst z=>z.length<=sizeLine/\∃(Sa:List ab) (v:Nat),bN z Sa/\d.get? g=Z {cls:=.type "list",data:=.seq Sa.toArray v}
 |.tup z=>z.length<=sizeLine/\∃Sa:List ab,bN z Sa/\l9 d g Sa.toArray
 |.dN R9=>R9.length<=sizeLine/\(g==jA)=ay/\∃T,fP R9 T/\d.DictOf (mX R4 H) g T
 |.aO R9=>R9.length<=sizeLine/\(g==jA)=ay/\∃z:List (List X×ag×ab),
   dC (λ(o:List X×ao) (q:List X×ag×ab)=>o.1=q.1/\gC j o.1 q.2.1/\b2 o.2 q.2.2) R9 z/\
   ∃m U Ss,d.get? g=Z m/\m.ExactDict/\m.data=.dict U Ss/\U.toList=z.map (entryOfKey<|dU R4 H)/\(z.map (·.1)).Nodup
 |.set Se v=>d.SetOf (intKind R4 H) g Se v
 |.ins ae SI ak=>j SI=Z (.own g)/\ak.length<=1000/\SI≠g/\d.get? g=Z (Ω ae SI)/\
   ∃S5,d.Ns1 SI S5/\(∀F,gU (ak.lookup F)<|S5 F)/\PySem.Within S5 (ak.map (·.1))
 |.own _=>∃m,d.get? g=Z m
 |.xA ak=>∃S5,d.Ns1 g S5/\∀F,gU (ak.lookup F) (S5 F)
 |.nT P RT=>∃y I s,d.get? g=Z {cls:=.type "range",data:=.fields #[.int P y,.int RT I,.int 1 s]}
 |.cM m I=>d.get? g=Z m/\d9 j d g I
 |.mE RY=>d.get? g=Z {cls:=.none,data:=.fields RY}
 |.met F f=>d.get? g=Z (Φe (.ref F)<|.ref f)
 |.ext a=>a d/\(∃m,d.get? g=Z m)/\∀t A:aV,a t->(∀m,t.get? g=Z m->A.get? g=Z m)->a A
def dI(j:ax)(d:aV):Prop:=(∀g m,j g=Z m->d9 R4 H j d g m)
end
section
variable{R4:bp}{H:a7}{j S:ax}{d RU:aV}{g:ag}{m:eZ}
def d9.lt(f:d9 R4 H j d g m):g<d.objs.size:=by
 cases m with
 |lst z=>let@⟨_,⟨_,@_,_,c⟩⟩:=f;exact ck c
 |tup z=>let@⟨_,⟨@_,_,o⟩⟩:=f;exact o.tup.lt
 |dN R9=>let@⟨_,_,⟨@_,_,⟨m,_,@_,c,_⟩⟩⟩:=f;exact ck c
 |aO R9=>let@⟨_,_,⟨@_,_,⟨m,_,@_,c,_⟩⟩⟩:=f;exact ck c
 |set Se v=>let⟨m,W,W,@W,c,W⟩:=f;exact ck c
 |ins ae SI ak=>let@⟨_,_,_,c,_⟩:=f;exact ck c
 |own D=>let⟨@W,c⟩:=f;exact ck c
 |xA ak=>let⟨@W,⟨W,W,@W,c,W⟩,W⟩:=f;exact ck c
 |nT P RT=>let⟨W,W,@W,c⟩:=f;exact ck c
 |cM aS I=>let@⟨c,_⟩:=f;exact ck c
 |mE RY=>exact ck (show d.get? g=Z _ from f)
 |met F D=>exact ck (show d.get? g=Z _ from f)
 |ext a=>let@⟨_,⟨@_,c⟩,_⟩:=f;exact ck c
theorem dC.u9{Sj SX:Type}{N R2:Sj->SX->Prop}:∀{a:List Sj}{b:List SX},dC N a b->(∀g e,N g e->R2 g e)->dC R2 a b
 |_,_,.nil,_=>.nil
 |_,_,.cons u y,F=>.cons (F _ _ u) (dC.u9 y F)
def d9.gw(f:d9 R4 H j d g m)(n:∀e I,(e=g\/j e=Z (.own g))->d.get? e=Z I->RU.get? e=Z I)(a:∀e,j e=Z (.own g)->S e=Z (.own g))(bL:∀e z,j e=Z (.tup z)->S e=Z (.tup z)):d9 R4 H S RU g m:=by
 induction m with
 |lst z=>let@⟨C,⟨Sa,@v,u,c⟩⟩:=f;exact⟨C,Sa,v,u,n _ _ (.inl rfl) c⟩
 |tup z=>let@⟨C,⟨@Sa,u,⟨@aS,c,p⟩⟩⟩:=f;exact⟨C,Sa,u,aS,n _ _ (.inl rfl) c,p⟩
 |dN R9=>let@⟨C,D,⟨@T,u,⟨aS,U,@Ss,c,p⟩⟩⟩:=f;exact⟨C,D,T,u,aS,U,Ss,n _ _ (.inl rfl) c,p⟩
 |aO R9=>
  let@⟨C,D,⟨@z,u,⟨aS,U,@Ss,c,p⟩⟩⟩:=f;exact⟨C,D,z,dC.u9 u λo q C=>⟨C.1,C.2.1.mono bL,C.2.2⟩,aS,U,Ss,n _ _ (.inl rfl) c,p⟩
 |set Se v=>let⟨aS,U,Ss,@y,c,p⟩:=f;exact⟨aS,U,Ss,y,n _ _ (.inl rfl) c,p⟩
 |ins ae SI ak=>
  let@⟨x,C,ne,c,⟨@S5,⟨Tb,U,@Ss,b,p⟩,u⟩⟩:=f;exact⟨a _ x,C,ne,n _ _ (.inl rfl) c,S5,⟨Tb,U,Ss,n _ _ (.inr x) b,p⟩,u⟩
 |own D=>let⟨@aS,c⟩:=f;exact⟨aS,n _ _ (.inl rfl) c⟩
 |xA ak=>let⟨@S5,⟨Tb,U,@Ss,c,p⟩,u⟩:=f;exact⟨S5,⟨Tb,U,Ss,n _ _ (.inl rfl) c,p⟩,u⟩
 |nT P RT=>let⟨y,I,@s,c⟩:=f;exact⟨y,I,s,n _ _ (.inl rfl) c⟩
 |cM aS I h=>let@⟨c,q⟩:=f;exact⟨n _ _ (.inl rfl) c,h q⟩
 |mE RY=>
  have c:d.get? g=Z {cls:=.none,data:=.fields RY}:=f;show RU.get? g=Z {cls:=.none,data:=.fields RY};exact n g _ (.inl rfl) c
 |met F D=>
  have c:d.get? g=Z (Φe (.ref F)<|.ref D):=f;show RU.get? g=Z (Φe (.ref F)<|.ref D);exact n g _ (.inl rfl) c
 |ext i=>let@⟨o,⟨@m,c⟩,Y⟩:=f;exact⟨Y _ _ o λm q=>n _ _ (.inl rfl) q,⟨m,n _ _ (.inl rfl) c⟩,Y⟩
theorem dI.lt(f:dI R4 H j d)(c:j g=Z m):g<d.objs.size:=(f g m c).lt
def dI.fresh(f:dI R4 H j d)(c:d.objs.size<=g):j g=V:=by
 cases q:j g with
 |none=>rfl
 |some I=>exact absurd (ef (f.lt q) c) (ij _)
def dI.kept(f:dI R4 H j d)(n:∀e I,d.get? e=Z I->RU.get? e=Z I):dI R4 H j RU:=λg m c=>
 (f g m c).gw (λe I W q=>n e I q) (λ_ q=>q) λ_ W q=>q
def dI.laid(f:dI R4 H j d)(n:∀e I,d.get? e=Z I->RU.get? e=Z I)(h:d.objs.size<=g)(new:d9 R4 H (upd j g m) RU g m):dI R4 H (upd j g m) RU:=λe I c=>by
 have a:=f.fresh h;by_cases b:e=g
 ·subst b;rw[dV]at c;cases c;exact new
 ·rw[b9 b]at c;exact (f e I c).gw (λp s W q=>n p s q) (λp q=>by rw[b9 (jE q a)];exact q) λp z q=>by rw[b9 (jE q a)];exact q
end
def jF(j:ax)(g:ag)(I:eZ):Prop:=(j g=Z I\/∃m,j g=Z (.cM m I))
def jF.ok{I:eZ}(u:jF j g I)(f:dI R4 H j d):d9 R4 H j d g I:=by
 rcases u with u|⟨m,u⟩
 ·exact f g I u
 ·let@⟨_,q⟩:=f g _ u;exact q
def rx:Option eZ->Prop
 |some (.lst _)=>True
 |some (.dN _)=>True
 |some (.aO _)=>True
 |some (.set _ _)=>True
 |some (.ins _ _ _)=>True
 |some (.ext _)=>True
 |_=>False
section
variable{R4:bp}{H:a7}{j:ax}{d RU:aV}{f c:ag}{SG:eZ}
def dI.write(ok:dI R4 H j d)(a:rx (j f))(i:c=f\/j c=Z (.own f))(n:∀e I,e≠c->d.get? e=Z I->RU.get? e=Z I)(m:∃I,RU.get? c=Z I)(new:d9 R4 H (upd j f SG) RU f SG):dI R4 H (upd j f SG) RU:=λe I q=>by
 have k:∀p D,j p=Z (.own D)->p≠f:=λp D u C=>by subst C;rw[u]at a;exact a
 have o:∀p z,j p=Z (.tup z)->p≠f:=λp z u C=>by subst C;rw[u]at a;exact a
 by_cases b:e=f
 ·subst b;rw[dV]at q;cases q;exact new
 ·rw[b9 b]at q;by_cases g:e=c
  ·have l:j e=Z (.own f):=by
    rcases i with C|C
    ·exact absurd (g.trans C) b
    ·rw[g];exact C
   rw[q]at l;cases l;let⟨@s,r⟩:=m;exact⟨s,by rw[g];exact r⟩
  ·refine (ok e I q).gw (λp s h u=>n p s ?_ u) (λp u=>by rw[b9 (k p e u)];exact u) λp z u=>by rw[b9 (o p z u)];exact u
   rcases h with rfl|h
   ·exact g
   ·rintro rfl;rcases i with C|C
    ·exact k p e h C
    ·rw[h]at C;cases C;exact b rfl
end
structure eT(ak SQ:List ag)(j S:ax)(d RU:aV):Prop where
 keep:∀e m,d.get? e=Z m->j e=V->e∉ak->e∉SQ->RU.get? e=Z m
 slot:∀e m,d.get? e=Z m->j e=V->e∈ak->e∉SQ->∃bJ,RU.get? e=Z {m with slots:=bJ}
 free:∀e m,d.get? e=Z m->j e=V->e∉SQ->S e=V
 iR:∀e m z,d.get? e=Z m->j e=Z (.tup z)->e∉SQ->RU.get? e=Z m
 there:∀e m,d.get? e=Z m->e∉SQ->∃SG,RU.get? e=Z SG
 ig:∀e z,j e=Z (.tup z)->S e=Z (.tup z)
 h_:∀e m I,j e=Z (.cM m I)->S e=Z (.cM m I)
 kc:∀e RY,j e=Z (.mE RY)->∃more,S e=Z (.mE<|RY++more)
section
variable{ak i SQ b:List ag}{j R5 Sf:ax}{d t A RU:aV}{g f c:ag}{m:eZ}
def eT.any(I:eT ak SQ j R5 d t){e:ag}{aS:a3}(q:d.get? e=Z aS)(v:j e=V)(a:e∉SQ):∃bJ,t.get? e=Z {aS with slots:=bJ}:=by
 by_cases b:e∈ak
 ·exact I.slot e aS q v b a
 ·exact⟨aS.slots,I.keep e aS q v b a⟩
def eT.kept(n:∀e I,d.get? e=Z I->RU.get? e=Z I):eT ak SQ j j d RU:=
 ⟨λe aS q W W W=>n e aS q,λe aS q W W W=>⟨aS.slots,n e aS q⟩,λ_ W W v W=>v,λe aS W q W W=>n e aS q,λe aS q W=>⟨aS,n e aS q⟩,λ_ W q=>q,λ_ W W q=>q,λ_ RY q=>⟨#[],by rw[q];simp⟩⟩
def eT.refl:eT ak SQ j j d d:=eT.kept λ_ W q=>q
theorem eT.laid(n:∀e I,d.get? e=Z I->RU.get? e=Z I)(b:d.objs.size<=g)(a:j g=V):eT ak SQ j (upd j g m) d RU where
 keep:=λe I q W W W=>n e I q
 slot:=λe I q W W W=>⟨I.slots,n e I q⟩
 free:=λe I q v W=>by rw[b9 (cR<|ef (ck q) b)];exact v
 iR:=λe I W q W W=>n e I q
 there:=λe I q W=>⟨I,n e I q⟩
 ig:=λe z q=>by rw[b9 (jE q a)];exact q
 h_:=λe I z q=>by rw[b9 (jE q a)];exact q
 kc:=λe RY q=>⟨#[],by rw[b9 (jE q a),q];simp⟩
def eT.write(a:rx (j f))(g:c=f\/j c=Z (.own f))(n:∀e I,e≠c->d.get? e=Z I->RU.get? e=Z I)(o:∃I,RU.get? c=Z I):eT ak SQ j (upd j f m) d RU:=by
 have h:∀e,j e=V->e≠f:=λe v C=>by subst C;rw[v]at a;exact a
 have i:∀e,j e=V->e≠c:=λe v C=>by
  subst C;rcases g with u|u
  ·exact h e v u
  ·rw[v]at u;cases u
 have b:∀e I,j e=Z I->¬ rx (Z I)->e≠f:=λe I q l C=>by subst C;rw[q]at a;exact l a
 refine⟨λe I q v W W=>n e I (i e v) q,λe I q v W W=>⟨I.slots,n e I (i e v) q⟩,λe I q v W=>by rw[b9 (h e v)];exact v,λe I z q y W=>n e I (λC=>by
   subst C;rcases g with u|u
   ·exact b e _ y (λC=>C) u
   ·rw[y]at u;cases u) q,λe I q W=>?_,
  λe z q=>by rw[b9 (b e _ q λC=>C)];exact q,λe I z q=>by rw[b9 (b e _ q λC=>C)];exact q,λe RY q=>⟨#[],by rw[b9 (b e _ q λC=>C),q];simp⟩⟩
 by_cases k:e=c
 ·subst k;exact o
 ·exact⟨I,n e I k q⟩
end
def uz(d:aV)(j:ax):List ag:=((range d.objs.size).filter λg=>(j g).isSome)
def Dv:List ab->Option (List ao)
 |[.int a _,.int r _]=>Z [.int a,.int r]
 |_=>V
def pV(m:a3):Option (List ao):=(
 match m.cls,m.dict,m.data with
 | .type "tuple",V,.seq Sa _=>Dv Sa.toList
 |_,_,_=>V)
def kp(m:a3):Option eZ:=((pV m).map .tup)
def kT(d:aV)(j:ax):aV:=(PySem.W.hideAll d (uz d j))
def NB(d:aV)(j:ax):(kT d j).objs.size=d.objs.size:=PySem.W.hideAll_size _ _
def ML{m:a3}(c:d.get? e=Z m)(v:j e=V):(kT d j).get? e=Z m:=
 PySem.W.hideAll_get _ c λa=>by
  have q:(j e).isSome=aa:=(sE.mp a).2;rw[v]at q;simp at q
def xP{m:a3}(c:(kT d j).get? e=Z m):d.get? e=Z m/\j e=V:=by
 have a:d.get? e=Z m:=PySem.W.of_hideAll (uz d j) c;refine⟨a,?_⟩;cases q:j e with
 |none=>rfl
 |some f=>
  have b:e∈uz d j:=sE.mpr ⟨en.mpr<|ck a,by simp[q]⟩;have C:(kT d j).get? e=V:=PySem.W.hideAll_none (uz d j) b;rw[C]at c;cases c
def Lb(L d:aV)(a:ag):List (ag×a3):=((range d.objs.size).filterMap λg=>if g=a\/(L.get? g).isSome=aa then V else (d.get? g).map λm=>(g,m))
def cK(L d:aV)(a x:ag):List (ag×a3):=((Lb L d a).filter λo=>decide (o.1≠x))
structure Mod(Q:Φ)(aE:au->Option ab)(R7:aV):Prop where
 qu:Q.In R7
 glob:R7.Ns d1 aE
 blt:∃Fq,R7.Ns uP Fq/\∀f:au,f ≠ "__name__" -> Fq f=gm f
 nolimit:R7.NoLimit
structure aJ where
 prog:bp
 w:a7
 K:Φ
 aE:au->Option ab
 base:aV
 A:bf
 N:List au
 eI:ah
 lG:ax
 env:ee
 outer:List ee
 stack:List ee
 ex:List ag
 fn:au->Bool
 calm:Bool
 ki:List (ag×a3)
 cH:ab->ah->Prop
variable{b:aJ}
def hO(J:List ee):List ag:=(J.filterMap (·.frame))
abbrev aJ.ak(b:aJ):List ag:=hO b.outer
def tQ(y:gV)(f:au):Prop:=(y.names.lookup f=Z .local\/y.names.lookup f=Z .cell\/y.names.lookup f=Z .free)
def kU(y:gV)(f:au):Prop:=(y.names.lookup f=Z .local\/y.names.lookup f=Z .cell)
def N4(RZ:ee)(d:aV)(i:au->Option ab)(f:au)(I:ab):Prop:=(
 (RZ.kindOf f=Z .local/\i f=Z I)\/((RZ.kindOf f=Z .cell\/RZ.kindOf f=Z .free)/\∃p,RZ.cells.lookup f=Z p/\d.IsCell p (Z I)))
structure aJ.Ok(b:aJ):Prop where
 mod:Mod b.K b.aE b.base
 kind:b.env.scope.kind=.function
 glob:b.env.globals=d1
 blt:b.env.builtins=uP
 above:b.eI.heap.objs.size<=b.env.locals
 inj:∀f D p,b.env.cells.lookup f=Z p->b.env.cells.lookup D=Z p->f=D
 has:∀f,(b.env.kindOf f=Z .cell\/b.env.kindOf f=Z .free)->∃p,b.env.cells.lookup f=Z p
 ni:∀f p,b.fn f=aa->b.env.cells.lookup f=Z p->b.eI.heap.objs.size<=p
 hd:b.calm=aa->b.A.handled=V
 frames:b.A.frames=Z b.stack
 q2:b.stack=b.outer\/(b.stack=b.env::b.outer/\b.env.frame=Z b.env.locals)
 vJ:∀e∈b.ex,e≠b.env.locals/\∀f p,b.env.cells.lookup f=Z p->p≠e
 bs:∀e m,b.base.get? e=Z m->b.eI.heap.get? e=Z m/\b.lG e=kp m
 jX:b.base.objs.size<=b.eI.heap.objs.size
 mJ:∀e m,b.base.get? e=Z m->e∉b.ex
 oj:∀e∈b.ex,e∉b.ak
 hy:b.eI.heap.FunFrames b.base b.outer
 mn:∀e∈b.ak,b.lG e=V
structure aB(b:aJ)(G:List (ag×a3))(w:List (Option ao))(j:ax)(h:ah):Prop where
 ok:b.Ok
 os:h.os=b.eI.os
 bare:k7 h.gens
 base:eT b.ak b.ex b.lG j b.eI.heap h.heap
 loc:∃i,h.heap.Ns b.env.locals i/\∀(a:Nat) (f:au) (s:ao),b.N[a]?=Z f->w[a]?=Z (Z s)->tQ b.env.scope f->∃I,b2 s I/\N4 b.env h.heap i f I
 cell:∀f p,b.env.cells.lookup f=Z p->∃s,h.heap.IsCell p s
 free:j b.env.locals=V
 h1:∀f p,b.env.cells.lookup f=Z p->j p=V
 pin:∀o∈b.ki++G,h.heap.get? o.1=Z o.2/\j o.1=V/\o.1≠b.env.locals/\o.1∉b.ak/\∀s,o.2.data≠.cell s
 a0:dI b.prog b.w j h.heap
 len:w.length=b.N.length
section
variable{b:aJ}{G:List (ag×a3)}{w:List (Option ao)}{j S:ax}{h:ah}{RU:aV}
def aJ.Ok.LJ(ok:b.Ok){e:ag}{m:a3}(c:b.base.get? e=Z m):e∉b.ak:=λa=>by
 have:=(ok.hy.mem a).1;rw[c]at this;cases this
def aB.bs(l:aB b G w j h):∀e m,b.base.get? e=Z m->h.heap.get? e=Z m/\j e=kp m:=λe m c=>by
 let⟨t,A⟩:=l.ok.bs e m c;cases p:pV m with
 |none=>
  have v:b.lG e=V:=A.trans (by rw[kp,p];rfl);exact⟨l.base.keep e m t v (l.ok.LJ c)<|l.ok.mJ e m c,(l.base.free e m t v<|l.ok.mJ e m c).trans<|v.symm.trans A⟩
 |some z=>
  have y:b.lG e=Z (.tup z):=A.trans (by rw[kp,p];rfl);exact⟨l.base.iR e m z t y<|l.ok.mJ e m c,(l.base.ig e z y).trans<|y.symm.trans A⟩
def aB.fb(l:aB b G w j h):∀e m,b.base.get? e=Z m->h.heap.get? e=Z m:=λe m c=>(l.bs e m c).1
def aB.mod(l:aB b G w j h):Mod b.K b.aE b.base:=l.ok.mod
def aB.hr(l:aB b G w j h):b.K.In h.heap:=l.ok.mod.qu.keeps l.fb
def aB.lt(l:aB b G w j h):b.env.locals<h.heap.objs.size:=let ⟨_,a,_⟩:=l.loc;a.lt
def aB.gr(l:aB b G w j h):b.eI.heap.objs.size<=h.heap.objs.size:=dx l.ok.above (lD l.lt)
def aB.MP(l:aB b G w j h){g:ag}(d:h.heap.objs.size<=g):g∉b.ak:=λa=>by
 let@⟨_,⟨@m,c,_⟩⟩:=l.ok.hy.mem a;exact absurd (ef (ck c)<|dx l.gr d) (ij _)
def aB.nR(l:aB b G w j h):∀f p,b.env.cells.lookup f=Z p->p≠b.env.locals:=λf p c C=>by
 let⟨s,@m,a,d⟩:=l.cell f p c;let⟨@i,⟨SG,U,@Ss,e,g,W⟩,W⟩:=l.loc;rw[C,e]at a;cases a;rw[g]at d;cases d
def aB.hy(l:aB b G w j h):h.heap.FunFrames b.base b.outer:=by
 have all:∀(J:List ee),(∀e∈hO J,e∈b.ak)->b.eI.heap.FunFrames b.base J->h.heap.FunFrames b.base J:=by
  intro J;induction J with
  |nil=>intro W W;trivial
  |cons RZ u i=>
   intro R6 k;let@⟨n,⟨a,@m,d,o,p,q⟩,r⟩:=k;have f:a∈b.ak:=R6 a (by unfold hO;rw[pY,d];exact lP);let⟨@bJ,c⟩:=l.base.slot a m p (l.ok.mn a f) f λC=>l.ok.oj a C f;exact⟨n,⟨a,_,d,o,c,q⟩,i (λe g=>R6 e (by unfold hO;rw[pY,d];exact jc _ g)) r⟩
 exact all b.outer (λ_ g=>g) l.ok.hy
def aB.stack(l:aB b G w j h):h.heap.FunFrames b.base b.stack:=by
 rcases l.ok.q2 with c|⟨c,a⟩
 ·rw[c];exact l.hy
 ·rw[c];let⟨@i,d,W⟩:=l.loc;refine .cons (by rw[l.ok.kind];decide) a d ?_ l.hy;exact yg (dx l.ok.jX l.ok.above)
def aB.vl(l:aB b G w j h):∀e∈hO b.stack,e∈b.env.locals::b.ak:=λe a=>by
 rcases l.ok.q2 with c|⟨c,d⟩
 ·rw[c]at a;exact jc _ a
 ·rw[c]at a;unfold hO at a;rw[pY,d]at a;exact a
def aB.FW(l:aB b G w j h):∀e∈hO b.stack,j e=V:=λe a=>by
 rcases cc.mp (l.vl e a) with c|a
 ·rw[c];exact l.free
 ·let@⟨_,⟨@m,d,_⟩⟩:=l.ok.hy.mem a;exact l.base.free e m d (l.ok.mn e a) λC=>l.ok.oj e C a
def aB.step{L:Array sa}{Sw:Nat}{U:Drawn}{Td:List ag}(l:aB b G w j h)(t:∀e∈Td,(e∈b.ex\/b.eI.heap.objs.size<=e)/\e≠b.env.locals/\(∀f p,b.env.cells.lookup f=Z p->p≠e)/\∀o∈b.ki++G,o.1≠e)(keep:∀e m,e≠b.env.locals->e∉b.ak->e∉Td->h.heap.get? e=Z m->j e=V->RU.get? e=Z m)(Ta:∀e m,e≠b.env.locals->e∈b.ak->e∉Td->h.heap.get? e=Z m->j e=V->∃bJ,RU.get? e=Z {m with slots:=bJ})(E:∀e m,e∉Td->h.heap.get? e=Z m->j e=V->S e=V)(al:∀e m,e∉Td->h.heap.get? e=Z m->∃SG,RU.get? e=Z SG)(iR:∀e m z,e∉Td->h.heap.get? e=Z m->j e=Z (.tup z)->RU.get? e=Z m)(ig:∀e z,j e=Z (.tup z)->S e=Z (.tup z))(h_:∀e m I,j e=Z (.cM m I)->S e=Z (.cM m I))(kc:∀e RY,j e=Z (.mE RY)->∃am,S e=Z (.mE<|RY++am))(P:∀i,h.heap.Ns b.env.locals i->RU.Ns b.env.locals i)(a0:dI b.prog b.w S RU)(an:k7 L):
  aB b G w S {h with heap:=RU,gens:=L,drawn:=U,toks:=Sw}:=by
 have N:∀e m,b.eI.heap.get? e=Z m->e≠b.env.locals:=λe m c=>cR (ef (ck c) l.ok.above);have A:∀e m,b.eI.heap.get? e=Z m->e∉b.ex->e∉Td:=λe m c d k=>by
  rcases (t e k).1 with C|C
  ·exact d C
  ·exact absurd (ef (ck c) C) (ij _)
 have O:∀f p,b.env.cells.lookup f=Z p->∀s,h.heap.IsCell p s->RU.IsCell p s:=λf p c s ⟨m,r,F⟩=>by
  have B:p∉Td:=λC=>(t p C).2.2.1 f p c rfl;by_cases Q:p∈b.ak
  ·let⟨@bJ,q⟩:=Ta p m (l.nR f p c) Q B r (l.h1 f p c);exact⟨_,q,F⟩
  ·exact⟨m,keep p m (l.nR f p c) Q B r<|l.h1 f p c,F⟩
 refine⟨l.ok,l.os,an,⟨λe m c v k d=>?_,λe m c v k d=>?_,λe m c v d=>?_,λe m z c y d=>iR e m z (A e m c d) (l.base.iR e m z c y d)<|l.base.ig e z y,λe m c d=>?_,λe z c=>ig e z<|l.base.ig e z c,λe m z c=>h_ e m z<|l.base.h_ e m z c,λe RY c=>?_⟩,?_,λf p c=>?_,?_,λf p c=>?_,λo R=>?_,a0,l.len⟩
 ·exact keep e m (N e m c) k (A e m c d) (l.base.keep e m c v k d) (l.base.free e m c v d)
 ·let⟨@bJ,g⟩:=l.base.slot e m c v k d;let⟨@ap,D⟩:=Ta e _ (N e m c) k (A e m c d) g (l.base.free e m c v d);exact⟨ap,D⟩
 ·let⟨@SG,g⟩:=l.base.there e m c d;exact E e SG (A e m c d) g (l.base.free e m c v d)
 ·let⟨@SG,g⟩:=l.base.there e m c d;exact al e SG (A e m c d) g
 ·let⟨@as,g⟩:=l.base.kc e RY c;let⟨@a1,D⟩:=kc e _ g;exact⟨as++a1,by rw[D,Array.append_assoc]⟩
 ·let⟨@i,a2,bd⟩:=l.loc;refine⟨i,P i a2,λa f s g D be=>?_⟩;let⟨@I,u,J⟩:=bd a f s g D be;refine⟨I,u,?_⟩;rcases J with J|⟨n,p,c,C⟩
  ·exact .inl J
  ·exact .inr ⟨n,p,c,O f p c _ C⟩
 ·let⟨@s,C⟩:=l.cell f p c;exact⟨s,O f p c s C⟩
 ·let⟨@i,⟨m,W,@W,r,W⟩,W⟩:=l.loc;exact E _ m (λC=>(t _ C).2.1 rfl) r l.free
 ·let⟨s,@m,r,F⟩:=l.cell f p c;exact E p m (λC=>(t p C).2.2.1 f p c rfl) r (l.h1 f p c)
 ·let@⟨c,v,ne,T,x⟩:=l.pin o R;have B:o.1∉Td:=λC=>(t o.1 C).2.2.2 o R rfl;exact⟨keep o.1 o.2 ne T B c v,E o.1 o.2 B c v,ne,T,x⟩
def aB.un(l:aB b G w j h)(I:eT b.ak [] j S h.heap RU)(a0:dI b.prog b.w S RU):aB b G w S {h with heap:=RU,toks:=Sw}:=by
 let⟨@i,⟨m,U,@Ss,d,u⟩,W⟩:=id l.loc;let⟨@bJ,g⟩:=I.any d l.free ↥0;exact l.step (L:=h.gens) (U:=h.drawn) (Td:=[]) (λ_ C=>nomatch C) (λe m W a W c v=>I.keep e m c v a ↥0) (λe m W a W c v=>I.slot e m c v a ↥0) (λe m W c v=>I.free e m c v ↥0) (λe m W c=>I.there e m c ↥0) (λe m z W c y=>I.iR e m z c y ↥0) I.ig I.h_ I.kc (λr k=>by
  let⟨SG,n,@o,f,SW⟩:=k;rw[d]at f;cases f;exact⟨_,n,o,g,SW⟩) a0 l.bare
def aB.call{g:Array sa}{r:Drawn}(l:aB b G w j h)(I:eT (hO b.stack) Td j S h.heap RU)(a0:dI b.prog b.w S RU)(s:k7 g)(k:∀e∈Td,(e∈b.ex\/b.eI.heap.objs.size<=e)/\e≠b.env.locals/\(∀f p,b.env.cells.lookup f=Z p->p≠e)/\∀o∈b.ki++G,o.1≠e):
  aB b G w S {h with heap:=RU,gens:=g,drawn:=r,toks:=Sw}:=by
 let⟨@i,⟨m,U,@Ss,n,u⟩,W⟩:=id l.loc;let⟨@bJ,d⟩:=I.any n l.free λC=>(k _ C).2.1 rfl;exact l.step (Td:=Td) k (λe m d t a c v=>I.keep e m c v (λC=>(cc.mp<|l.vl e C).elim d t) a) (λe m W W a c v=>I.any c v a) (λe m a c v=>I.free e m c v a) (λe m a c=>I.there e m c a) (λe m z a c y=>I.iR e m z c y a) I.ig I.h_ I.kc (λD x=>by
  let⟨SG,A,@B,q,SW⟩:=x;rw[n]at q;cases q;exact⟨_,A,B,d,SW⟩) a0 s
def aB.turned(l:aB b G w j h)(n:∀e m,e≠R0->h.heap.get? e=Z m->RU.get? e=Z m)(k:j R0=V)(d:R0≠b.env.locals)(t:R0∈b.ex\/b.eI.heap.objs.size<=R0)(A:∀f p,b.env.cells.lookup f=Z p->p≠R0)(r:∀o∈b.ki++G,o.1≠R0):aB b G w j {h with heap:=RU,toks:=Sw}:=by
 have g:∀e I,j e=Z I->e≠R0:=λe I c C=>by rw[C,k]at c;cases c
 refine l.step (L:=h.gens) (U:=h.drawn) (Td:=[R0]) (λe x=>?_) (λe m W W a c W=>n e m (λC=>a (by simp[C])) c) (λe m W W a c W=>⟨m.slots,n e m (λC=>a (by simp[C])) c⟩) (λ_ W W W v=>v)
  (λe m a c=>⟨m,n e m (λC=>a (by simp[C])) c⟩) (λe m W a c W=>n e m (λC=>a (by simp[C])) c) (λ_ W c=>c) (λ_ W W c=>c) (λe RY c=>⟨#[],by rw[c];simp⟩) (λi y=>?_) (λe I c=>?_) l.bare
 ·have c:e=R0:=by simpa using x
  subst c;exact⟨t,d,A,r⟩
 ·let⟨m,U,@Ss,z,u⟩:=y;exact⟨m,U,Ss,n _ m (eH d) z,u⟩
 ·refine (l.a0 e I c).gw (λp s a q=>n p s ?_ q) (λ_ q=>q) λ_ W q=>q;rcases a with C|C
  ·rw[C];exact g e I c
  ·exact g p _ C
def aB.tok(l:aB b G w j h)(y:Nat):aB b G w j {h with toks:=y}:=l.un (RU:=h.heap) (Sw:=y) eT.refl l.a0
def aB.kept(l:aB b G w j h)(n:∀e I,h.heap.get? e=Z I->RU.get? e=Z I):aB b G w j {h with heap:=RU,toks:=Sw}:=l.un (eT.kept n) (l.a0.kept n)
def aB.laid(l:aB b G w j h)(n:∀e I,h.heap.get? e=Z I->RU.get? e=Z I)(a:h.heap.objs.size<=g)(new:d9 b.prog b.w (upd j g m) RU g m):
  aB b G w (upd j g m) {h with heap:=RU,toks:=Sw}:=l.un (eT.laid n a<|l.a0.fresh a) (l.a0.laid n a new)
def aB.write{f c:ag}(l:aB b G w j h)(a:rx (j f))(d:c=f\/j c=Z (.own f))(n:∀e I,e≠c->h.heap.get? e=Z I->RU.get? e=Z I)(g:∃I,RU.get? c=Z I)(new:d9 b.prog b.w (upd j f m) RU f m):aB b G w (upd j f m) {h with heap:=RU,toks:=Sw}:=l.un (eT.write a d n g) (l.a0.write a d n g new)
def aB.weak{c:List (Option ao)}(l:aB b G w j h)(d:c.length=w.length)(H:∀(a:Nat) s,c[a]?=Z (Z s)->w[a]?=Z (Z s)):aB b G c j h:=
 ⟨l.ok,l.os,l.bare,l.base,let ⟨i,e,g⟩:=l.loc;⟨i,e,λa f s k m n=>g a f s k (H a s m) n⟩,l.cell,l.free,l.h1,l.pin,l.a0,d.trans l.len⟩
def aB.oP{a:List (ag×a3)}(l:aB b G w j h)(d:∀o∈a,h.heap.get? o.1=Z o.2/\j o.1=V/\o.1≠b.env.locals/\o.1∉b.ak/\∀s,o.2.data≠.cell s):aB b a w j h:=
 ⟨l.ok,l.os,l.bare,l.base,l.loc,l.cell,l.free,l.h1,λo c=>(dJ.mp c).elim (λC=>l.pin o<|ea _ C)<|d o,l.a0,l.len⟩
def zc(b:Si.Nodup){a r:Nat}{f:au}(g:Si[a]?=Z f)(e:Si[r]?=Z f):a=r:=by
 let⟨@t,c⟩:=e4.mp g;let⟨@A,d⟩:=e4.mp e;exact (Ab b).mp (c.trans d.symm)
variable{B:Unit->ah->Prop}
def Rn{aA:fX}(l:aB b G w j h)(as:b.N.Nodup)(RT:b.N[a]?=Z f)(k:kU b.env.scope f)(u:b2 s I)(d:∀RV,aB b G (w.set a<|Z s) j RV->(∃g,aV.SameBut g h.heap RV.heap/\(g=b.env.locals\/b.env.cells.lookup f=Z g))->B () RV)(bs:b.fn f=aa\/b.env.scope.names.lookup f=Z .local:=by first|exact .inl rfl|exact .inr rfl|assumption):wpAny aA O (storeName b.env f I) B RW h:=by
 let⟨@i,T,a1⟩:=id l.loc;have bv:(b.env.scope.kind==.class || (b.env.scope.kind==.module&&b.env.locals != b.env.globals))=ay:=by rw[l.ok.kind];rfl
 have a2:a<w.length:=by rw[l.len];exact (e4.mp RT).1
 have nR:=l.nR;have bd:∀{g:ag}{RU:aV},(∃m,h.heap.get? g=Z m/\j g=V)->aV.SameBut g h.heap RU->dI b.prog b.w j RU:=λ{g RU} ca R6 e aS c=>by
  let⟨@W,W,be⟩:=ca;refine (l.a0 e aS c).gw (λp Q A q=>(R6.2 p ?_).trans q) (λ_ q=>q) λ_ W q=>q;rintro rfl;rcases A with rfl|A
  ·rw[be]at c;cases c
  ·rw[be]at A;cases A
 rcases k with F|F
 ·refine wpAny_storeName_local F T (λRU cd R6=>?_) bv;let⟨ce,W,@W,ch,W⟩:=id T;refine d _ ⟨l.ok,l.os,l.bare,⟨λe m c v L k=>?_,λe m c v L k=>?_,l.base.free,λe m z c y k=>(R6.2 e<|cR<|ef (ck c) l.ok.above).trans<|l.base.iR e m z c y k,λe m c k=>?_,l.base.ig,l.base.h_,l.base.kc⟩,⟨_,cd,λr D U t E al=>?_⟩,λD p c=>?_,l.free,l.h1,λo am=>?_,bd ⟨ce,ch,l.free⟩ R6,by simpa using l.len⟩ ⟨_,R6,.inl rfl⟩
  ·exact (R6.2 e<|cR<|ef (ck c) l.ok.above).trans (l.base.keep e m c v L k)
  ·let⟨@bJ,t⟩:=l.base.slot e m c v L k;exact⟨bJ,(R6.2 e<|cR<|ef (ck c) l.ok.above).trans t⟩
  ·let⟨@SG,t⟩:=l.base.there e m c k;exact⟨SG,(R6.2 e<|cR<|ef (ck c) l.ok.above).trans t⟩
  ·by_cases P:r=a
   ·subst P;rw[RT]at t;cases t;rw[rU a2]at E;cases E;exact⟨I,u,.inl ⟨F,by simp⟩⟩
   ·rw[nu (eH P)]at E;let⟨@an,SW,q⟩:=a1 r D U t E al;refine⟨an,SW,?_⟩;rcases q with ⟨n,c⟩|⟨n,p,c,C⟩
    ·refine .inl ⟨n,?_⟩;have:D≠f:=λc=>P (zc as t<|c ▸ RT);simp[this,c]
    ·exact .inr ⟨n,p,c,C.sameBut R6<|nR D p c⟩
  ·let⟨@Q,C⟩:=l.cell D p c;exact⟨Q,C.sameBut R6<|nR D p c⟩
  ·let@⟨c,v,ne,ap,x⟩:=l.pin o am;exact⟨(R6.2 o.1 ne).trans c,v,ne,ap,x⟩
 ·have R:b.fn f=aa:=by
   rcases bs with C|C
   ·exact C
   ·rw[C]at F;cases F
  let⟨@p,A⟩:=l.ok.has f (.inl F);let⟨@Q,C⟩:=l.cell f p A;refine wpAny_storeName_cell l.ok.kind F A C (λRU bi R6=>?_);let⟨@Tg,bm,ci⟩:=id C;refine d {h with heap:=RU} ⟨l.ok,l.os,l.bare,⟨λe m c v L k=>?_,λe m c v L k=>?_,l.base.free,λe m z c y k=>(R6.2 e<|cR<|ef (ck c)<|l.ok.ni f p R A).trans<|l.base.iR e m z c y k,λe m c k=>?_,l.base.ig,l.base.h_,l.base.kc⟩,⟨i,T.sameBut R6<|eH<|nR f p A,λr D U t E al=>?_⟩,λD S c=>?_,l.free,l.h1,λo am=>?_,bd ⟨Tg,bm,l.h1 f p A⟩ R6,by simpa using l.len⟩ ⟨p,R6,.inr A⟩
  ·exact (R6.2 e<|cR<|ef (ck c)<|l.ok.ni f p R A).trans (l.base.keep e m c v L k)
  ·let⟨@bJ,t⟩:=l.base.slot e m c v L k;exact⟨bJ,(R6.2 e<|cR<|ef (ck c)<|l.ok.ni f p R A).trans t⟩
  ·let⟨@SG,t⟩:=l.base.there e m c k;exact⟨SG,(R6.2 e<|cR<|ef (ck c)<|l.ok.ni f p R A).trans t⟩
  ·by_cases P:r=a
   ·subst P;rw[RT]at t;cases t;rw[rU a2]at E;cases E;exact⟨I,u,.inr ⟨.inl F,p,A,bi⟩⟩
   ·rw[nu (eH P)]at E;let⟨@an,SW,q⟩:=a1 r D U t E al;refine⟨an,SW,?_⟩;rcases q with q|⟨n,S,c,cl⟩
    ·exact .inl q
    ·refine .inr ⟨n,S,c,cl.sameBut R6 ?_⟩;rintro rfl;exact P (zc as t<|l.ok.inj _ _ _ c A ▸ RT)
  ·by_cases bn:S=p
   ·subst bn;exact⟨_,bi⟩
   ·let⟨@cp,co⟩:=l.cell D S c;exact⟨cp,co.sameBut R6 bn⟩
  ·let@⟨c,v,ne,ap,x⟩:=l.pin o am;refine⟨(R6.2 o.1 ?_).trans c,v,ne,ap,x⟩;intro q;rw[q,bm]at c;have cr:Tg=o.2:=Option.some.inj c;exact x Q (by rw[<-cr];exact ci)
def sU{aA:fX}(l:aB b G w j h)(c:b.N.Nodup)(RT:b.N[a]?=Z f)(e:kU b.env.scope f)(u:b2 s I)(d:∀RV,aB b G (w.set a<|Z s) j RV->B () RV)(g:b.fn f=aa\/b.env.scope.names.lookup f=Z .local:=by first|exact .inl rfl|exact .inr rfl|assumption):wpAny aA O (storeName b.env f I) B RW h:=
 Rn l c RT e u (λRV i W=>d RV i) g
def aB.NU(l:aB b G w j h)(g:RV.os=h.os)(I:eT (hO b.stack) Td j S h.heap RV.heap)(a0:dI b.prog b.w S RV.heap)(i:k7 RV.gens)(k:∀e∈Td,(e∈b.ex\/b.eI.heap.objs.size<=e)/\e≠b.env.locals/\(∀f p,b.env.cells.lookup f=Z p->p≠e)/\∀o∈b.ki++G,o.1≠e):aB b G w S RV:=by
 let⟨RU,a,d,Sw,SG⟩:=RV;have c:SG=h.os:=g;subst c;exact l.call (g:=a) (Sw:=Sw) (r:=d) I a0 i k
end
abbrev fh:=ab->Option ag->ax->Prop
abbrev aZ:=List (Option ao)
variable{w:aZ}
abbrev cx:=ao->ax->Prop
abbrev bZ:=aZ->ax->cx->Prop
variable{S9:bZ}
abbrev ei:=aZ->ax->(Bool->ax->Prop)->Prop
variable{Tw:ei}
abbrev ew:=aZ->ax->(List ao->ax->Prop)->Prop
variable{SP:ew}
structure nG where
 aL:aZ->ax->Prop
 dP:cx
 fb:aZ->ax->Prop:=λ_ _=>False
 bQ:aZ->ax->Prop:=λ_ _=>False
abbrev eA:=nG->aZ->ax->Prop
variable{S7:eA}
def e_(b:aJ)(G:List (ag×a3))(w:aZ)(B:cx)(I:ab)(RV:ah):Prop:=(∃s S,aB b G w S RV/\b2 s I/\B s S)
def x1(b:aJ)(G:List (ag×a3))(w:aZ)(B:Bool->ax->Prop)(e:Bool)(RV:ah):Prop:=(∃S,aB b G w S RV/\B e S)
def MH(b:aJ)(G:List (ag×a3))(w:aZ)(B:List ao->ax->Prop)(Sk:List ab)(RV:ah):Prop:=(∃T S,aB b G w S RV/\bN T Sk/\B T S)
def qB(b:aJ)(G:List (ag×a3))(k:nG)(F:Flow)(RV:ah):Prop:=(
 match F with
 |.next=>∃a S,aB b G a S RV/\k.aL a S
 |.brk=>∃a S,aB b G a S RV/\k.fb a S
 |.cont=>∃a S,aB b G a S RV/\k.bQ a S
 |.ret I=>∃s a S,aB b G a S RV/\b2 s I/\k.dP s S)
def yJ(b:aJ)(c:bj)(y:bZ)(G:List (ag×a3)):Prop:=(
 ∀(h:ah) (w:aZ) (j:ax) (B:cx),aB b G w j h->y w j B->wpAny (aM b.prog b.w) b.A (bK c b.env) (e_ b G w B) b.cH h)
def bH(b:aJ)(c:bj)(y:bZ):Prop:=(∀G,yJ b c y G)
def AG(b:aJ)(c:bj)(y:ei)(G:List (ag×a3)):Prop:=(
 ∀(h:ah) (w:aZ) (j:ax) (B:Bool->ax->Prop),aB b G w j h->y w j B->wpAny (aM b.prog b.w) b.A (tS c b.env<|bK c b.env) (x1 b G w B) b.cH h)
def ih(b:aJ)(c:bj)(y:ei):Prop:=(∀G,AG b c y G)
def D0(b:aJ)(c:bj)(y:ei)(a:c8 ab):Prop:=(
 ∀(G:List (ag×a3)) (h:ah) (w:aZ) (j:ax) (B:Bool->ax->Prop),aB b G w j h->y w j B->wpAny (aM b.prog b.w) b.A (tS c b.env a) (x1 b G w B) b.cH h)
def jg(b:aJ)(c:bj)(y:ei):Prop:=(∀a,D0 b c y a)
def jg.pt{y:ei}(d:jg b c y):ih b c y:=d _
def Cg(b:aJ)(U:List bj)(y:ew)(Sd:Pos):Prop:=(
 ∀(G:List (ag×a3)) (h:ah) (w:aZ) (j:ax) (B:List ao->ax->Prop),aB b G w j h->y w j B->wpAny (aM b.prog b.w) b.A (spliced<|ez Sd<|bC U b.env) (MH b G w B) b.cH h)
def gS(b:aJ)(U:List bj)(y:ew):Prop:=(∀Sd,Cg b U y Sd)
def B0(b:aJ)(Y:bI)(y:eA)(G:List (ag×a3)):Prop:=(
 ∀(h:ah) (w:aZ) (j:ax) (k:nG),aB b G w j h->y k w j->wpAny (aM b.prog b.w) b.A (exec Y b.env) (qB b G k) b.cH h)
def hK(b:aJ)(Y:bI)(y:eA):Prop:=(∀G,B0 b Y y G)
def CO(b:aJ)(Y:List bI)(y:eA)(G:List (ag×a3)):Prop:=(
 ∀(h:ah) (w:aZ) (j:ax) (k:nG),aB b G w j h->y k w j->wpAny (aM b.prog b.w) b.A (execs Y b.env) (qB b G k) b.cH h)
def hu(b:aJ)(Y:List bI)(y:eA):Prop:=(∀G,CO b Y y G)
def bO{Sj:Type}{y:c8 Sj}{B a:Sj->ah->Prop}{aA:fX}(d:wpAny aA O y B RW h)(b:∀g h,B g h->a g h):wpAny aA O y a RW h:=gT d b λ_ W f=>f
section
variable{b:aJ}
def hF(a:Nat):bZ:=(λw j B=>∃s,w[a]?=Z (Z s)/\B s j)
def r3(s:ao):bZ:=(λ_ j B=>B s j)
def CX(o:b.N[a]?=Z f)(q:tQ b.env.scope f)(g:(f==("__debug__" : au))=ay:=by decide)(r:(f==("__classdict__" : au))=ay:=by decide):bH b (.Name f Sd) (hF a):=by
 intro G h w j B l d;let⟨@s,c,d⟩:=d;let⟨@i,t,v⟩:=l.loc;let⟨@I,u,J⟩:=v a f s o c q;have k:e_ b G w B I h:=⟨s,j,l,u,d⟩;rcases J with ⟨e,x⟩|⟨e,p,m,n⟩
 ·exact vt (wpAny_loadName_local l.ok.kind e t x k) g
 ·rcases e with e|e
  ·exact vt (wpAny_loadName_cell l.ok.kind e m n k) g
  ·exact vt (wpAny_loadName_free l.ok.kind e m n k r) g
def Qp{a r Sd}:bH b (.Constant (.int a) r Sd) (r3<|.int a):=λ_ W W j W l d=>wpAny_Constant_int ⟨.int a,j,l.tok _,⟨_,rfl⟩,d⟩
def IY{e r Sd}:bH b (.Constant (.bool e) r Sd) (r3<|.aN e):=λ_ W W j W l d=>Constant_bool ⟨.aN e,j,l,rfl,d⟩
def ep(b:aJ)(f:au):Prop:=(b.env.kindOf f=Z .globalImplicit)
def rV(l:aB b G w j h)(a:ep b f)(c:b.aE f=Z I)(d:B I h)(e:(f==("__debug__" : au))=ay:=by decide):wpAny (aM b.prog b.w) b.A (bK (.Name f Sd) b.env) B RW h:=
 DU l.ok.kind a (Calls.loadGlobal_global (by rw[l.ok.glob];exact l.mod.glob.keeps l.fb) c d) e
def ql(l:aB b G w j h)(a:ep b f)(c:b.aE f=V)(e:gm f=Z I)(d:B I h)(g:f ≠ "__name__" := by decide)(i:(f==("__debug__" : au))=ay:=by decide):wpAny (aM b.prog b.w) b.A (bK (.Name f Sd) b.env) B RW h:=by
 let⟨@k,t,A⟩:=l.mod.blt;exact DU l.ok.kind a (Calls.loadGlobal_builtin (by rw[l.ok.glob];exact l.mod.glob.keeps l.fb) c (by rw[l.ok.blt];exact t.keeps l.fb) ((A f g).trans e) d) i
def zI(a:ep b f)(c:b.aE f=Z I)(u:b2 s I)(e:(f==("__debug__" : au))=ay:=by decide):bH b (.Name f Sd) (r3 s):=
 λ_ W W j W l d=>rV l a c ⟨s,j,l,u,d⟩ e
variable{g e:bj}{SP S7:bZ}{Sd:Pos}
variable{g6 i:ei}{cK:List bj}
def A9(y I:ei):ei:=(λw j B=>y w j λp R5=>if p=aa then I w R5 B else B ay R5)
def B6(y I:ei):ei:=(λw j B=>y w j λp R5=>if p=aa then B aa R5 else I w R5 B)
def LQ(a:ih b g g6):jg b (.BoolOp .And [g] Sd) g6:=by
 intro e G h w j B l d;refine isTrue_and (bO (a G h w j B l d) λp f c=>?_);cases p with
 |true=>exact isTrue_and_nil c
 |false=>exact c
def KN(a:ih b g g6):jg b (.BoolOp .Or [g] Sd) g6:=by
 intro e G h w j B l d;refine isTrue_or (bO (a G h w j B l d) λp f c=>?_);cases p with
 |false=>exact isTrue_or_nil c
 |true=>exact c
def Ov(f:ih b g g6)(k:jg b (.BoolOp .And (e::cK) Sd) i):jg b (.BoolOp .And (g::e::cK) Sd) (A9 g6 i):=by
 intro m G h w j B l d;refine isTrue_and (bO (f G h w j _ l d) λp n o=>?_);let⟨@R5,a,c⟩:=o;cases p with
 |true=>exact k m G n w R5 B a c
 |false=>exact⟨R5,a,c⟩
def Qz(f:ih b g g6)(k:jg b (.BoolOp .Or (e::cK) Sd) i):jg b (.BoolOp .Or (g::e::cK) Sd) (B6 g6 i):=by
 intro m G h w j B l d;refine isTrue_or (bO (f G h w j _ l d) λp n o=>?_);let⟨@R5,a,c⟩:=o;cases p with
 |true=>exact⟨R5,a,c⟩
 |false=>exact k m G n w R5 B a c
def G6(y:ei)(SP S7:bZ):bZ:=(λw j B=>y w j λp R5=>if p=aa then SP w R5 B else S7 w R5 B)
def Jw(i:ih b p g6)(k:bH b g SP)(m:bH b e S7):bH b (.IfExp p g e Sd) (G6 g6 SP S7):=by
 intro G h w j B l d;refine wpAny_IfExp (bO (i G h w j _ l d) λx a n=>?_);let⟨@R5,c,f⟩:=n;cases x with
 |true=>exact k G a w R5 B c f
 |false=>exact m G a w R5 B c f
end
def dE(Q:Φ)(j:ax)(g:ag)(z:List ao):Prop:=(
 jF j g (.lst z)\/
  ∃(m:a3) (Sa:Array ab) (v:Nat),Q.lookup g=Z m/\m.cls=.type "list" /\ m.dict=V/\m.data=.seq Sa v/\Sa.size<=sizeLine/\bN z Sa.toList)
def c7(Q:Φ)(j:ax)(g:ag)(z:List ao):Prop:=(
 jF j g (.tup z)\/
  ∃(m:a3) (Sa:Array ab) (v:Nat),Q.lookup g=Z m/\m.cls=.type "tuple" /\ m.data=.seq Sa v/\Sa.size<=sizeLine/\bN z Sa.toList)
def Qf:ab->Option ao
 |.none=>Z .aX
 |.bool e=>Z (.aN e)
 |.int a _=>Z (.int a)
 |.str f _=>Z (.str f)
 |.bytes e _=>Z (.tf e)
 |.float e _=>Z (.sM e)
 |.ref g=>Z (.ref g)
 |.type v=>Z (.ty v)
 |_=>V
def b2.abs{f:ao}(u:b2 f I):Qf I=Z f:=by
 cases f with
 |aX=>cases u;rfl
 |aN _=>cases u;rfl
 |int _=>let⟨@y,rfl⟩:=u;rfl
 |str _=>let⟨@y,rfl⟩:=u;rfl
 |tf _=>let⟨@y,rfl⟩:=u;rfl
 |sM _=>let⟨@y,rfl⟩:=u;rfl
 |ref _=>cases u;rfl
 |ty _=>cases u;rfl
def b2.inj{f:ao}(u:b2 f I)(q:b2 D I):f=D:=Option.some.inj (u.abs.symm.trans q.abs)
theorem bN.inj:∀{z Sh:List ao}{Sk:List ab},bN z Sk->bN Sh Sk->z=Sh
 |_,_,_,.nil,.nil=>rfl
 |_,_,_,.cons u y,.cons SW Sw=>by rw[u.inj SW,bN.inj y Sw]
section
variable{b:aJ}{G:List (ag×a3)}{w:aZ}{j:ax}{h:ah}{g:ag}{z Sh:List ao}
def dE.of(d:j g=Z (.lst z)):dE Q j g z:=.inl (.inl d)
def c7.of(d:j g=Z (.tup z)):c7 Q j g z:=.inl (.inl d)
def aB.list(l:aB b G w j h)(d:dE b.K j g z):∃Sa:List ab,bN z Sa/\PlainL h.heap g Sa.toArray/\z.length<=sizeLine:=by
 rcases d with d|⟨m,Sa,v,a,e,f,R6,i,u⟩
 ·let@⟨C,⟨Sa,@v,u,c⟩⟩:=d.ok l.a0;exact⟨Sa,u,⟨_,v,c,rfl,rfl,rfl⟩,C⟩
 ·refine⟨Sa.toList,u,⟨m,v,l.hr g m a,e,f,by simpa using R6⟩,?_⟩;have c:=u.length;simp only[c6]at c;lia
def aB.tuple(l:aB b G w j h)(d:c7 b.K j g z):∃Sa:List ab,bN z Sa/\m8 h.heap g Sa.toArray/\z.length<=sizeLine:=by
 rcases d with d|⟨m,Sa,v,a,e,R6,f,u⟩
 ·let@⟨C,⟨@Sa,u,o⟩⟩:=d.ok l.a0;exact⟨Sa,u,o.tup,C⟩
 ·refine⟨Sa.toList,u,⟨m,l.hr g m a,e,v,by simpa using R6⟩,?_⟩;have c:=u.length;simp only[c6]at c;lia
def aB.QQ(l:aB b G w j h)(d:dE b.K j g z)(RU:dE b.K j g Sh):z=Sh:=by
 let⟨@Sa,u,⟨m,@v,c,W,W,x⟩,W⟩:=l.list d;let⟨@M,SW,⟨SG,@f,a,W,W,e⟩,W⟩:=l.list RU;rw[c]at a;cases a;rw[x]at e;injection e with Sx _;have:Sa=M:=by simpa using congrArg Array.toList Sx
 subst this;exact u.inj SW
def aB.Oo(l:aB b G w j h)(d:c7 b.K j g z)(RU:c7 b.K j g Sh):z=Sh:=by
 let⟨@Sa,u,⟨@m,c,W,⟨@v,x⟩⟩,W⟩:=l.tuple d;let⟨@M,SW,⟨@SG,a,W,⟨@f,e⟩⟩,W⟩:=l.tuple RU;rw[c]at a;cases a;rw[x]at e;injection e with Sx _;have:Sa=M:=by simpa using congrArg Array.toList Sx
 subst this;exact u.inj SW
end
abbrev aJ.ku(b:aJ)(RW:ab->ah->Prop):aJ:={b with cH:=RW}
abbrev aJ.l8(b:aJ):aJ:=b.ku λ_ _=>False
def aJ.Ok.ku(ok:b.Ok)(RW:ab->ah->Prop):(b.ku RW).Ok:=
 ⟨ok.mod,ok.kind,ok.glob,ok.blt,ok.above,ok.inj,ok.has,ok.ni,ok.hd,ok.frames,ok.q2,ok.vJ,ok.bs,ok.jX,ok.mJ,ok.oj,ok.hy,ok.mn⟩
def aJ.Ok.l4(ok:(b.ku RW).Ok):b.Ok:=
 ⟨ok.mod,ok.kind,ok.glob,ok.blt,ok.above,ok.inj,ok.has,ok.ni,ok.hd,ok.frames,ok.q2,ok.vJ,ok.bs,ok.jX,ok.mJ,ok.oj,ok.hy,ok.mn⟩
section
variable{b:aJ}{G:List (ag×a3)}{w:aZ}{j:ax}{h:ah}{RW:ab->ah->Prop}
def aB.ku(l:aB b G w j h)(RW:ab->ah->Prop):aB (b.ku RW) G w j h:=⟨l.ok.ku RW,l.os,l.bare,l.base,l.loc,l.cell,l.free,l.h1,l.pin,l.a0,l.len⟩
def aB.l4(l:aB (b.ku RW) G w j h):aB b G w j h:=⟨l.ok.l4,l.os,l.bare,l.base,l.loc,l.cell,l.free,l.h1,l.pin,l.a0,l.len⟩
def qB.l4{k:nG}{F:Flow}(d:qB (b.ku RW) G k F RV):qB b G k F RV:=by
 cases F with
 |next=>let⟨a,@S,l,q⟩:=d;exact⟨a,S,l.l4,q⟩
 |brk=>let⟨a,@S,l,q⟩:=d;exact⟨a,S,l.l4,q⟩
 |cont=>let⟨a,@S,l,q⟩:=d;exact⟨a,S,l.l4,q⟩
 |ret I=>let⟨s,a,@S,l,u,q⟩:=d;exact⟨s,a,S,l.l4,u,q⟩
def hu.l8{Y:List bI}{y:eA}(d:hu b.l8 Y y):hu b Y y:=λG h w j k l a=>
 gT (d G h w j k (l.ku _) a) (λ_ W q=>q.l4) λ_ W C=>False.elim C
end
section
variable{b:aJ}{Y:bI}{cK:List bI}{y I:eA}{c:bj}{S9:bZ}{Sd:Pos}
def Me:eA:=(λk w j=>k.aL w j)
def AL(y I:eA):eA:=(λk w j=>y {k with aL:=I k} w j)
def N8:hu b [] Me:=λ_ W w j W l d=>tl ⟨w,j,l,d⟩
def M7(t:hK b Y y)(A:hu b cK I):hu b (Y::cK) (AL y I):=by
 intro G h w j k l d;refine D4 (bO (t G h w j {k with aL:=I k} l d) λF a q=>?_);cases F with
 |next=>
  let⟨c,@S,e,q⟩:=q;exact A G a c S k e q
 |ret s=>exact q
 |brk=>exact q
 |cont=>exact q
def GV(t:hK b Y y):hu b [Y] y:=by
 intro G h w j k l d;refine D4 (bO (t G h w j k l d) λF a q=>?_);cases F with
 |next=>exact tl q
 |ret s=>exact q
 |brk=>exact q
 |cont=>exact q
def aB.quiet(l:aB b G w j h):interactive b.env=ay:=by simp[interactive,l.ok.kind]
def QT(S9:bZ):eA:=(λk w j=>S9 w j λ_ R5=>k.aL w R5)
def QB(a:bH b c S9)(R6:nN c V Sd.line b.env=pure ay:=by rfl):hK b (.Expr c Sd) (QT S9):=by
 intro G h w j k l d;exact wpAny_Expr_any (bO (a G h w j _ l d) λs i ⟨f,R5,e,m,g⟩=>⟨w,R5,e,g⟩) l.quiet R6
def Rm(S9:bZ):eA:=(λk w j=>S9 w j k.dP)
def G0(a:bH b c S9):hK b (.Return (Z c) Sd) (Rm S9):=by
 intro G h w j k l d;exact wpAny_Return_some (bO (a G h w j _ l d) λs m ⟨f,R5,e,g,i⟩=>⟨f,w,R5,e,g,i⟩)
def Qi(p:ei)(y I:eA):eA:=(λk w j=>p w j λe R5=>if e=aa then y k w R5 else I k w R5)
def Jd{g e:List bI}(i:ih b p Tw)(m:hu b g y)(n:hu b e I):hK b (.If p g e Sd) (Qi Tw y I):=by
 intro G h w j k l d;refine wpAny_If (bO (i G h w j _ l d) λx a o=>?_);let⟨@R5,c,f⟩:=o;cases x with
 |true=>exact m G a w R5 k c f
 |false=>exact n G a w R5 k c f
end
abbrev gu:=ao->aZ->ax->(aZ->ax->Prop)->Prop
abbrev kr:=List ao->aZ->ax->(aZ->ax->Prop)->Prop
def DR(b:aJ)(c:bj)(y:gu)(G:List (ag×a3)):Prop:=(
 ∀(h:ah) (w:aZ) (j:ax) (s:ao) (I:ab) (B:aZ->ax->Prop),aB b G w j h->b2 s I->y s w j B->
  wpAny (aM b.prog b.w) b.A (jC c b.env I) (λ_ RV=>∃a S,aB b G a S RV/\B a S) b.cH h)
def jI(b:aJ)(a:bj)(y:gu):Prop:=(∀G,DR b a y G)
def zN(b:aJ)(SH:List bj)(y:kr)(G:List (ag×a3)):Prop:=(
 ∀(h:ah) (w:aZ) (j:ax) (T:List ao) (Sk:List ab) (B:aZ->ax->Prop),aB b G w j h->bN T Sk->y T w j B->
  wpAny (aM b.prog b.w) b.A (vL ((gB SH b.env).map (·.2)) Sk) (λ_ RV=>∃a S,aB b G a S RV/\B a S) b.cH h)
def n1(b:aJ)(SH:List bj)(y:kr):Prop:=(∀G,zN b SH y G)
abbrev wy:=ao->ao->ao->ax->(ax->Prop)->Prop
def vu(b:aJ)(y:wy):Prop:=(
 ∀(G:List (ag×a3)) (h:ah) (w:aZ) (j:ax) (m a s:ao) (c d I:ab) (B:ax->Prop),aB b G w j h->b2 m c->b2 a d->b2 s I->y m a s j B->
  wpAny (aM b.prog b.w) b.A (ri c d I) (λ_ RV=>∃S,aB b G w S RV/\B S) b.cH h)
section
variable{b:aJ}{Sd:Pos}
def A2(a:Nat):gu:=(λs w j B=>B (w.set a<|Z s) j)
def La(c:b.N.Nodup)(RT:b.N[a]?=Z f)(e:kU b.env.scope f)(g:b.fn f=aa\/b.env.scope.names.lookup f=Z .local:=by first|exact .inl rfl|exact .inr rfl|assumption):jI b (.Name f Sd) (A2 a):=by
 intro G h w j s I B l u d;exact wpAny_assign_Name (sU l c RT e u (λRV i=>⟨_,j,i,d⟩) g)
def Kc:kr:=(λT w j B=>T=[]/\B w j)
def Jj(y:gu)(I:kr):kr:=(λT w j B=>∃s u,T=s::u/\y s w j λa S=>I u a S B)
def Js:n1 b [] Kc:=by
 intro G h w j T Sk B l u d;let@⟨c,d⟩:=d;subst c;cases u;exact FV ⟨w,j,l,d⟩
def Qw{y:gu}{I:kr}(t:jI b c y)(A:n1 b U I)(R6:(gB (c::U) b.env).map (·.2)=jC c b.env::(gB U b.env).map (·.2):=by rfl):n1 b (c::U) (Jj y I):=by
 intro G h w j T Sk B l u d;let⟨s,@m,a,d⟩:=d;subst a;cases u with
 |cons u e=>
  rw[R6];refine xM (bO (t G h w j _ _ _ l u d) λ_ f g=>?_);let⟨Tq,@R5,i,k⟩:=g;exact A G f Tq R5 _ _ B i e k
def Kl(Q:Φ)(v:Nat)(y:kr):gu:=(λs w j B=>∃g z,s=.ref g/\c7 Q j g z/\z.length=v/\y z w j B)
def MK{y:kr}(i:b.calm=aa)(d:n1 b U y)(k:(gB U b.env).length=v:=by rfl)(o:(gB U b.env).findIdx? (·.1)=V:=by rfl):jI b (.Tuple U n Sd) (Kl b.K v y):=by
 intro G h w j s I B l u a;let⟨g,@z,p,q,r,a⟩:=a;subst p;cases u;let⟨@Sa,f,bL,A⟩:=l.tuple q;refine assign_Tuple_tuple (l.ok.hd i) bL (by simp[k,<-r,f.length]) o λRU t=>?_;have x:aB b G w j {h with heap:=RU}:=l.kept (Sw:=h.toks) λe m c=>t e m (cR<|ck c) c;exact d G _ w j z _ B x ⇑f a
def OE(k b:bZ)(y:wy):gu:=(λs w j B=>k w j λm R5=>b w R5 λa Sf=>y m a s Sf λc=>B w c)
def Ea{m a:bj}{k i:bZ}{y:wy}(n:bH b m k)(RT:bH b a i)(R6:vu b y)(o:∀s,jC (.Subscript m a Sd) b.env s=(do
   let c <-holding [s] (bK m b.env)
   let e <-holding [s,c] (bK a b.env)
   standAt Sd
   holding [s,c,e] (ri c e s)
   release [s,c,e] []):=by intro W;rfl):jI b (.Subscript m a Sd) (OE k i y):=by
 intro G h w j s I B l u d;rw[o];refine aw (fU<|bO (n G h w j _ l d) λc p g=>?_);let⟨f,@R5,q,r,t⟩:=g;refine aw (fU<|bO (RT G p w R5 _ q t) λe v g=>?_);let⟨D,@Sf,x,z,A⟩:=g;refine aw (vD<|aw<|fU<|bO (R6 G v w Sf f D s c e I _ x r z u A) λ_ H g=>?_);let⟨@C,E,F⟩:=g;exact wpAny_release ⟨w,C,E,F⟩
def zJ(S9:bZ)(L:gu):eA:=(λk w j=>S9 w j λf R5=>L f w R5 k.aL)
def P8{L:gu}(a:bH b c S9)(e:jI b Sz L)(R6:r4 [Sz] c Sd.line b.env=pure ay:=by rfl)(g:tg [Sz] c b.env=pure V:=by rfl)(t:(gB [Sz] b.env).map (·.2)=[jC Sz b.env]:=by rfl):hK b (.Assign [Sz] c Sd) (zJ S9 L):=by
 intro G h w j k l d;refine wpAny_Assign_stores (bO (a G h w j _ l d) λs i ⟨f,R5,m,n,o⟩=>?_) R6 g;rw[t];exact bO (e G i w R5 f s _ m n o) λ_ p q=>q
def JA{y:Pos}(e:b.N.Nodup)(RT:b.N[a]?=Z f)(g:kU b.env.scope f)(i:bH b c S9)(R6:nN c (Z<|.Name f y) Sd.line b.env=pure ay:=by rfl)(m:b.fn f=aa\/b.env.scope.names.lookup f=Z .local:=by first|exact .inl rfl|exact .inr rfl|assumption):
  hK b (.Assign [.Name f y] c Sd) (zJ S9<|A2 a):=by
 intro G h w j k l d;refine wpAny_Assign_Name (bO (i G h w j _ l d) λs r ⟨D,R5,n,o,p⟩=>?_) R6;exact sU n e RT g o (λt q=>⟨_,R5,q,p⟩) m
def Hl(a r:Nat)(SP:ew):eA:=(λk w j=>SP w j λT R5=>∃s H,T=[s,H]/\k.aL ((w.set a<|Z s).set r<|Z H) R5)
def Ib{D:au}{g e:bj}{i4 t pt:Pos}{SN u v}(E:b.calm=aa)(y:b.N.Nodup)(RT:b.N[a]?=Z f)(F:b.N[r]?=Z D)(I:a≠r)(z:b.env.scope.names.lookup f=Z .local)(B:b.env.scope.names.lookup D=Z .local)(L:gS b [g,e] SP)(M:tg [.Tuple [.Name f i4,.Name D t] SN pt] (.Tuple [g,e] u v) b.env=pure (Z [f,D]))(R6:r4 [.Tuple [.Name f i4,.Name D t] SN pt] (.Tuple [g,e] u v) Sd.line b.env=pure ay:=by rfl):
  hK b (.Assign [.Tuple [.Name f i4,.Name D t] SN pt] (.Tuple [g,e] u v) Sd) (Hl a r SP):=by
 intro G h w j k l d;rw[exec_Assign_arm];refine aw (vD ?_);rw[R6];refine aw (aR ?_);rw[aG ∅];refine aw (Tuple_<|bO (L _ G h w j _ l d) λSk i P=>?_);let⟨T,@R5,Q,R,x⟩:=P;let⟨s,@H,S,x⟩:=x;subst S;obtain⟨n,p,rfl,U,al⟩:∃n p,Sk=[n,p]/\b2 s n/\b2 H p:=by
  cases R with
  |cons o q=>
   cases q with
   |cons am an=>
    cases an;exact⟨_,_,rfl,o,am⟩
 refine gp ?_ (by show 2<=sizeLine;decide);have ap:aB b G w R5 {i with heap:=i.heap.push {cls:=.type "tuple",data:=.seq [n,p].toArray} }:=Q.kept (Sw:=i.toks) λe m c=>cg _ c;rw[M];refine aw (aR ?_);show wpAny (aM b.prog b.w) b.A (do rule "assign.swapped-stores";let Sm <-unpackItems (.ref i.heap.objs.size) 2 V;vL [λs=>tZ b.env D s,λs=>tZ b.env f s] Sm.reverse;pure Flow.next) _ _ _;refine aw (jy<|aw<|unpackItems_tuple (items:=#[n,p]) (l.ok.hd E) (m8.new i.heap _) λRU as=>?_);have a1:=ap.kept (RU:=RU) (Sw:=i.toks) λe m c=>as e m (cR<|ck c) c;show wpAny _ _ (vL [λs=>tZ b.env D s,λs=>tZ b.env f s] [p,n] >>= λ_=>pure Flow.next) _ _ _;refine aw (xM<|Ci<|sU a1 y F (.inl B) al (λbd a2=>?_)<|.inr B);refine xM (Ci<|sU a2 y RT (.inl z) U (λbe C=>FV<|aR ?_)<|.inr z);rw[v5 _ _ (eH I)]at C;exact⟨_,R5,C,x⟩
def Ju(p:ei)(S7:eA):eA:=(λk w j=>∃W:Nat->aZ->ax->Prop,(∃i,W i w j)/\∀i w j,W i w j->
 p w j λe R5=>if e=aa then ∃Si:aZ->ax->Prop,(∀a S,Si a S->∃b,b<i/\W b a S)/\S7 {k with aL:=Si,bQ:=Si,fb:=k.aL} w R5 else k.aL w R5)
def OB(q:n2 (aM b.prog b.w) b.A b.env b.cH)(x:ih b p Tw)(y:hu b Th S7):hK b (.While p Th [] Sd) (Ju Tw S7):=by
 intro G h w j k l d;let⟨@W,⟨@z,hN⟩,turn⟩:=d;refine wpAny_While (codeAny_whileLoop (λv RV=>∃r S,aB b G r S RV/\W v r S) ?_ z ⟨w,j,l,hN⟩);rintro v B ⟨Tq,R5,C,cw⟩;refine nr q (bO (x G B Tq R5 _ C<|turn v Tq R5 cw) λe D E=>?_);let⟨@Sf,t,f⟩:=E;cases e with
 |true=>
  let⟨@Si,u,f⟩:=f;rw[aD rfl];refine nr q (bO (y G D Tq Sf _ t f) λF I g=>?_);cases F with
  |next=>
   let⟨a,@c,i,m⟩:=g;let⟨@n,o,c_⟩:=u a c m;exact⟨n,o,a,c,i,c_⟩
  |cont=>
   let⟨a,@c,i,m⟩:=g;let⟨@n,o,c_⟩:=u a c m;exact⟨n,o,a,c,i,c_⟩
  |brk=>exact g
  |ret s=>exact g
 |false=>
  rw[aG c4];exact tl ⟨Tq,Sf,t,f⟩
end
structure eR where
 go:Nat->ax->Prop
 rP:Nat->ax->ao->ax->Prop
 stop:Nat->ax->Prop
def k4(b:aJ)(G:List (ag×a3))(j:ax)(e:ag):Prop:=(
 j e=V/\e≠b.env.locals/\e∉b.ak/\(e∈b.ex\/b.eI.heap.objs.size<=e)/\(∀f p,b.env.cells.lookup f=Z p->p≠e)/\∀o∈b.ki++G,o.1≠e)
def aB.tO(l:aB b G w j h)(a:h.heap.objs.size<=e)(d:S e=V):k4 b G S e:=by
 refine⟨d,kD<|ef l.lt a,l.MP a,.inr<|dx l.gr a,λf p c C=>?_,λo g C=>?_⟩
 ·let⟨@s,q⟩:=l.cell f p c;exact absurd (ef q.lt (by rw[C];exact a)) (ij _)
 ·exact absurd (ef (ck (l.pin o g).1) (by rw[C];exact a)) (ij _)
structure ra(R4:bp)(H:a7)(Q:Φ)(Sz:bj)(SY:eR)(bU:List ag)(R0:ag)(N:Nat->aV->Prop):Prop where
 mem:R0∈bU
 obj:∀a d,N a d->∀e∈bU,∃m,d.get? e=Z m/\∀s,m.data≠.cell s
 keep:∀a d RU,N a d->(∀e∈bU,∀m,d.get? e=Z m->RU.get? e=Z m)->N a RU
 item:∀(b:aJ),b.prog=R4->b.w=H->b.K=Q->b.calm=aa->∀(a:Nat) (G:List (ag×a3)) (h:ah) (w:aZ) (j:ax) (RW:ab->ah->Prop),aB b G w j h->(∀e∈bU,k4 b G j e)->N a h.heap->SY.go a j->
  wpAny (aM R4 H) b.A (fz<|.ref R0) (λu s1=>∃I,u=Z I/\
   wpAny (aM R4 H) b.A (uD Sz (.ref R0) I) (λ_ s2=>∃f S,aB b G w S s2/\b2 f I/\SY.rP a j f S/\N (a+1) s2.heap/\∀e∈bU,S e=V) RW s1) RW h
 done:∀(b:aJ),b.prog=R4->b.w=H->b.K=Q->b.calm=aa->∀(a:Nat) (G:List (ag×a3)) (h:ah) (w:aZ) (j:ax) (RW:ab->ah->Prop),aB b G w j h->(∀e∈bU,k4 b G j e)->N a h.heap->SY.stop a j->
  wpAny (aM R4 H) b.A (fz<|.ref R0) (λu s1=>u=V/\aB b G w j s1) RW h
 self:∀(O:bf) (a:Nat) (h:ah) (B:ab->ah->Prop) (RW:ab->ah->Prop),N a h.heap->B (.ref R0) h->wpAny (aM R4 H) O (nA<|.ref R0) B RW h
abbrev jh:=aZ->ax->(eR->ax->Prop)->Prop
def EY(b:aJ)(G:List (ag×a3))(w:aZ)(Sz:bj)(R1:eR->ax->Prop)(c:ab)(a:ah):Prop:=(
 ∃(R0:ag) (bU:List ag) (N:Nat->aV->Prop) (SY:eR) (S:ax),c=.ref R0/\aB b G w S a/\ra b.prog b.w b.K Sz SY bU R0 N/\N 0 a.heap/\(∀e∈bU,k4 b G S e)/\R1 SY S)
def Bx(b:aJ)(Sz S4:bj)(E:jh)(G:List (ag×a3)):Prop:=(
 ∀(h:ah) (w:aZ) (j:ax) (R1:eR->ax->Prop),aB b G w j h->E w j R1->
  wpAny (aM b.prog b.w) b.A (bK S4 b.env) (λs a=>wpAny (aM b.prog b.w) b.A (nA s) (EY b G w Sz R1) b.cH a) b.cH h)
def lj(b:aJ)(Sz S4:bj)(E:jh):Prop:=(∀G,Bx b Sz S4 E G)
def tX{aA:fX}{RW:ab -> ah -> Prop}{m:a3}{v:String}{T:Array ab}{B:Unit -> ah -> Prop}(b:h.heap.get? R0=Z m)(c:m.cls=.type v)(e:m.data=.fields T)(f:["enumerate", "zip", "dict_itemiterator", "dict_reverseitemiterator", "odict_iterator", "itertools.zip_longest", "itertools.pairwise"].contains v=ay)(a:B () h): wpAny aA O (uD Sz (.ref R0) I) B RW h:=by
  unfold uD;cases Sz <;> first
    | exact aR a
    | (cases I <;> first
        | exact aR a
        | (refine aw (yo b ?_)
           rw [c,e];show wpAny aA O (if (["enumerate", "zip", "dict_itemiterator", "dict_reverseitemiterator", "odict_iterator", "itertools.zip_longest", "itertools.pairwise"].contains v&&T[0]? == Z (eS _))=aa then _ else _) B RW h;rw [aG (by intro d; rw [f,Bool.false_and]at d; cases d)];exact aR a))
def qJ(Q:Φ)(g:ag):eR:=(
 ⟨λa j=>∃z f,dE Q j g z/\z[a]?=Z f,λa j f S=>S=j/\∀z,dE Q j g z->z[a]?=Z f,λa j=>∃z,dE Q j g z/\z.length<=a⟩)
def sQ(Q:Φ)(g:ag):eR:=(
 ⟨λa j=>∃z f,c7 Q j g z/\z[a]?=Z f,λa j f S=>S=j/\∀z,c7 Q j g z->z[a]?=Z f,λa j=>∃z,c7 Q j g z/\z.length<=a⟩)
def ub(P:Int)(v:Nat):eR:=(⟨λa W=>a<v,λa j f S=>S=j/\f=.int (P+a),λa W=>v<=a⟩)
theorem LW(g R0:ag):ra R4 H Q Sz (qJ Q g) [R0] R0 (λa d=>d.IsListIter R0 g a) where
 mem:=by simp
 obj:=λa d Y e i=>by
  have c:e=R0:=by simpa using i
  subst c;let⟨@m,c,p,x⟩:=Y;exact⟨m,c,λs C=>by rw[x]at C;cases C⟩
 keep:=λa d RU Y n=>Y.at λm c=>n R0 ↥0 m c
 item:=by
  intro b r t u J a G h w j RW l k Y v;subst r t u;let⟨z,@f,q,y⟩:=v;let⟨@Sa,A,o,M⟩:=l.list q;let⟨@I,N,O⟩:=A.get y;let@⟨Te,B,P,D,E,F⟩:=k R0 ↥0;refine wpAny_pyNext_list_item Y o.isList (x:=I) ⇑N λRU L cJ=>?_;have R:aB b G w j {h with heap:=RU}:=l.turned (Sw:=h.toks) (λe m i c=>(cJ.2 e i).trans c) Te B D E F;let⟨@m,c,p,x⟩:=id L;exact⟨I,rfl,tX (h:={h with heap:=RU}) c p x ∅ ⟨f,j,R,O,⟨rfl,λSh S=>by rw[l.QQ S q];exact y⟩,L,λe i=>(k e i).1⟩⟩
 done:=by
  intro b r t u J a G h w j RW l k Y v;subst r t u;let⟨@z,q,y⟩:=v;let⟨@Sa,A,o,M⟩:=l.list q;let@⟨Te,B,P,D,E,F⟩:=k R0 ↥0;have U:=A.length;exact wpAny_pyNext_list_end (l.ok.hd J) Y o.isList (by simp;lia) λRU T=>⟨rfl,l.turned (Sw:=h.toks) (λe m i c=>T e m i c) Te B D E F⟩
 self:=λ_ W W W W Y d=>wpAny_pyIter_listiter Y d
theorem Nc(g R0:ag):ra R4 H Q Sz (sQ Q g) [R0] R0 (λa d=>d.IsTupleIter R0 g a) where
 mem:=by simp
 obj:=λa d Y e i=>by
  have c:e=R0:=by simpa using i
  subst c;let⟨@m,c,p,x⟩:=Y;exact⟨m,c,λs C=>by rw[x]at C;cases C⟩
 keep:=λa d RU Y n=>Y.at λm c=>n R0 ↥0 m c
 item:=by
  intro b r t u J a G h w j RW l k Y v;subst r t u;let⟨z,@f,q,y⟩:=v;let⟨@Sa,A,o,M⟩:=l.tuple q;let⟨@I,N,O⟩:=A.get y;let@⟨Te,B,P,D,E,F⟩:=k R0 ↥0;refine wpAny_pyNext_tuple_item Y (show h.heap.IsTuple g Sa.toArray from o) (x:=I) ⇑N λRU L cJ=>?_;have R:aB b G w j {h with heap:=RU}:=l.turned (Sw:=h.toks) (λe m i c=>(cJ.2 e i).trans c) Te B D E F;let⟨@m,c,p,x⟩:=id L;exact⟨I,rfl,tX (h:={h with heap:=RU}) c p x ∅ ⟨f,j,R,O,⟨rfl,λSh S=>by rw[l.Oo S q];exact y⟩,L,λe i=>(k e i).1⟩⟩
 done:=by
  intro b r t u J a G h w j RW l k Y v;subst r t u;let⟨@z,q,y⟩:=v;let⟨@Sa,A,o,M⟩:=l.tuple q;let@⟨Te,B,P,D,E,F⟩:=k R0 ↥0;have U:=A.length;exact wpAny_pyNext_tuple_end (l.ok.hd J) Y (show h.heap.IsTuple g Sa.toArray from o) (by simp;lia) λRU T=>⟨rfl,l.turned (Sw:=h.toks) (λe m i c=>T e m i c) Te B D E F⟩
 self:=λ_ W W W W Y d=>wpAny_pyIter_tupleiter Y d
theorem Nr(R0:ag)(P:Int)(v:Nat):ra R4 H Q Sz (ub P v) [R0] R0 (λa d=>IsRangeIter d R0 (P+(a:Nat)*1) ((v:Int)-(a:Nat)) 1) where
 mem:=by simp
 obj:=λa d Y e f=>by
  have c:e=R0:=by simpa using f
  subst c;exact⟨_,Y,λs C=>by
   have A:Data.fields _=Data.cell s:=C;cases A⟩
 keep:=λa d RU Y n=>n R0 ↥0 _ Y
 item:=by
  intro b i k o p a G h w j RW l g Y q;subst i k o;let@⟨Te,r,B,t,u,x⟩:=g R0 ↥0;have W:=jx.range (prog:=b.prog) (w:=b.w) (l.ok.hd p) R0 P 1 v;refine W.item a h _ _ q Y λs RU SD D z d0=>?_;let⟨@y,rfl⟩:=D;have E:aB b G w j {h with heap:=RU,toks:=SD}:=l.turned (λe m f c=>d0 e m ⇑f c) Te r t u x;refine⟨_,rfl,tX (h:={h with heap:=RU,toks:=SD}) (v := "range_iterator") z rfl rfl ∅ ⟨.int<|P+a,j,E,⟨y,?_⟩,⟨rfl,rfl⟩,z,λe f=>(g e f).1⟩⟩;rw[C1]
 done:=by
  intro b i k o p a G h w j RW l g Y q;subst i k o;let@⟨Te,r,B,t,u,x⟩:=g R0 ↥0;exact wpAny_pyNext_range_end (l.ok.hd p) Y (by have:v<=a:=q;lia) λRU F=>⟨rfl,l.turned (Sw:=h.toks) (λe m f c=>F e m f c) Te r t u x⟩
 self:=λ_ U U U U Y d=>wpAny_pyIter_rangeiter Y d
section
variable{b:aJ}{Sz:bj}
def LN{R1:eR->ax->Prop}{P RT:Int}{y I s:gJ}{SD:Nat}(l:aB b G w j h)(t : -(2^62)<=P)(A:P<2^62)(d : -(2^62)<=RT)(f:RT<2^62)(q:R1 (ub P (RT-P).toNat) j):wpAny (aM b.prog b.w) b.A (nA<|.ref h.heap.objs.size) (EY b G w Sz R1) RW {h with heap:=h.heap.push {cls:=.type "range",data:=.fields #[.int P y,.int RT I,.int 1 s]},toks:=SD}:=by
 refine wpAny_pyIter_range (IsRange.new ..) (small_one t A d f) ?_;have a:aB b G w j {h with heap:=h.heap.push {cls:=.type "range",data:=.fields #[.int P y,.int RT I,.int 1 s]},toks:=SD}:=l.kept λe m c=>cg _ c;refine⟨(h.heap.push {cls:=.type "range",data:=.fields #[.int P y,.int RT I,.int 1 s]}).objs.size,[(h.heap.push {cls:=.type "range",data:=.fields #[.int P y,.int RT I,.int 1 s]}).objs.size],_,_,j,rfl,
  a.kept (Sw:=SD) λe m c=>cg _ c,Nr _ P (RT-P).toNat,?_,λe g=>?_,q⟩
 ·have i:P+((0:Nat):Int)*1=P:=by simp
  have k:(((RT-P).toNat:Nat):Int)-((0:Nat):Int)=bq.Range.rangeSize P RT 1:=by rw[rangeSize_one];split<;>lia
  show IsRangeIter _ _ (P+((0:Nat):Int)*1) ((((RT-P).toNat:Nat):Int)-((0:Nat):Int)) 1;rw[i,k];exact dh _ rfl
 ·have c:e=(h.heap.push {cls:=.type "range",data:=.fields #[.int P y,.int RT I,.int 1 s]}).objs.size:=by simpa using g
  subst c;exact a.tO (bl _) (a.a0.fresh<|bl _)
def H4(SP:ew):jh:=(λw j R1=>SP w j λT R5=>∃r:Int,T=[.int r] /\ -(2^62)<=r/\r<2^62/\R1 (ub 0 r.toNat) R5)
def Hp{g:bj}{o:Pos}(e:ep b "range")(f:b.aE "range" = V)(i:gS b [g] SP)(R6:bC [g] b.env=[(ay,bK g b.env)]:=by rfl):lj b Sz (.Call (.Name "range" o) [g] [] Sd) (H4 SP):=by
 intro G h w j R1 l d;refine Call_ (ql l e f boot_range<|yv (bO (i Sd G h w j _ l d) λSk s ⟨T,R5,k,m,a⟩=>?_) R6 rfl);let⟨@r,c,a,n,q⟩:=a;subst c;cases m with
 |cons u p=>
  cases p;let⟨@y,rfl⟩:=u;exact call_range_1 (LN k ⋯ ⋯ a n ⇑q)
def BH(E:jh)(L:gu)(S7:eA):eA:=(λk w j=>E w j λSY R5=>∃W:Nat->Nat->aZ->ax->Prop,(∃i,W 0 i w R5)/\∀a i w j,W a i w j->
 (SY.stop a j/\k.aL w j)\/(SY.go a j/\∃Si:aZ->ax->Prop,(∀b S,Si b S->∃c,c<i/\W (a+1) c b S)/\∀f S,SY.rP a j f S->L f w S λd Sf=>S7 {k with aL:=Si,bQ:=Si,fb:=k.aL} d Sf))
def lz(bU:List ag)(d:aV):List (ag×a3):=(bU.filterMap λe=>(d.get? e).map λm=>(e,m))
def uj{m:a3}(a:e∈bU)(c:d.get? e=Z m):(e,m)∈lz bU d:=tE.mpr ⟨e,a,by rw[c];rfl⟩
def E6{o:ag×a3}(a:o∈lz bU d):o.1∈bU/\d.get? o.1=Z o.2:=by
 let⟨@e,b,c⟩:=tE.mp a;cases q:d.get? e with
 |none=>rw[q]at c;cases c
 |some m=>
  rw[q]at c;have f:(e,m)=o:=Option.some.inj c;subst f;exact⟨b,q⟩
def aB.pinned(l:aB b G w j h)(f:∀e∈bU,k4 b G j e)(g:∀e∈bU,∃m,h.heap.get? e=Z m/\∀s,m.data≠.cell s):aB b (G++lz bU h.heap) w j h:=
 l.oP λo i=>(dJ.mp i).elim (λC=>l.pin o<|di _ C) λC=>by
  let@⟨a,c⟩:=E6 C;let@⟨Te,k,n,_⟩:=f o.1 a;let⟨@m,d,x⟩:=g o.1 a;rw[c]at d;cases d;exact⟨c,Te,k,n,x⟩
def aB.vB{a5:List (ag×a3)}(l:aB b (G++a5) w j h):aB b G w j h:=l.oP λo a=>l.pin o (di _<|ea _ a)
def A0{S4:bj}{E:jh}{L:gu}(y:n2 (aM b.prog b.w) b.A b.env b.cH)(R:b.calm=aa)(RT:lj b Sz S4 E)(a1:jI b Sz L)(g:hu b Th S7)(R6:∀f,nd S4 b.env f=pure f:=by intro O;rfl):hK b (.For Sz S4 Th [] Sd) (BH E L S7):=by
 intro G h w j k l d;refine wpAny_For (bO (RT G h w j _ l d) λs fn t=>bO t λfr f0 A=>?_) R6;let⟨R0,bU,N,SY,@Sf,c,a2,R8,bd,T,⟨@W,⟨@be,hN⟩,turn⟩⟩:=A;subst c;have J:∀{S:ax},(∀e∈bU,S e=V)->∀e∈bU,k4 b G S e:=λbi e g=>⟨bi e g,(T e g).2⟩;refine codeAny_forLoop_any (λv RV=>∃a z S,aB b G z S RV/\N a RV.heap/\(∀e∈bU,S e=V)/\W a v z S) ?_ be ⟨0,w,Sf,a2,bd,λe g=>(T e g).1,hN⟩;rintro v U ⟨a,B,D,al,am,an,c_⟩;rcases turn a v B D c_ with ⟨stop,bm⟩|⟨go,Si,bn,step⟩
 ·refine nr y (bO (R8.done b rfl rfl rfl R a G U B D b.cH al (J an) am stop) λu bs r=>?_);let@⟨M,bv⟩:=r;subst M;exact tl ⟨B,D,bv,bm⟩
 ·refine nr y (bO (R8.item b rfl rfl rfl R a G U B D b.cH al (J an) am go) λu bs r=>?_);let⟨@I,M,ca⟩:=r;subst M;refine nr y (bO ca λ_ ap r=>?_);let⟨f,@as,cd,ce,ch,P,ci⟩:=r;have cl:=cd.pinned (J ci) (R8.obj _ _ P);refine nr y (bO (a1 _ ap B as f I _ cl ce<|step f as ch) λ_ co r=>?_);let⟨cr,@cs,db,ds⟩:=r;refine nr y (bO (g _ co cr cs _ db ds) λF Q q=>?_);have again:∀{n:aZ}{o:ax},aB b (G++lz bU ap.heap) n o Q->Si n o->∃i,i<v/\∃a z S,aB b G z S Q/\N a Q.heap/\(∀e∈bU,S e=V)/\W a i z S:=λ{n o} p C=>by
   let⟨@dL,eq,ev⟩:=bn n o C;refine⟨dL,eq,a+1,n,o,p.vB,R8.keep _ _ _ P λe g m c=>(p.pin (e,m)<|di _<|di _<|uj g c).1,λe g=>?_,ev⟩;let⟨@m,c,x⟩:=R8.obj _ _ P e g;exact (p.pin (e,m)<|di _<|di _<|uj g c).2.1
  cases F with
  |next=>let⟨n,@o,p,C⟩:=q;exact again p C
  |cont=>let⟨n,@o,p,C⟩:=q;exact again p C
  |brk=>let⟨n,@o,p,q⟩:=q;exact⟨n,o,p.vB,q⟩
  |ret s=>let⟨ex,n,@o,p,fd,q⟩:=q;exact⟨ex,n,o,p.vB,fd,q⟩
end
abbrev bB:=ao->ao->ax->cx->Prop
variable{SW u:bB}
def dO(b:aJ)(F:ab->ab->c8 ab)(u:bB):Prop:=(
 ∀(G:List (ag×a3)) (h:ah) (w:aZ) (j:ax) (f D:ao) (s I:ab) (B:cx),aB b G w j h->b2 f s->b2 D I->u f D j B->
  wpAny (aM b.prog b.w) b.A (F s I) (e_ b G w B) b.cH h)
def xw(b:aJ)(F:ab->c8 ab)(u:ao->ax->cx->Prop):Prop:=(
 ∀(G:List (ag×a3)) (h:ah) (w:aZ) (j:ax) (f:ao) (s:ab) (B:cx),aB b G w j h->b2 f s->u f j B->
  wpAny (aM b.prog b.w) b.A (F s) (e_ b G w B) b.cH h)
def e7(b:aJ)(F:ab)(u:List ao->ax->cx->Prop):Prop:=(
 ∀(G:List (ag×a3)) (h:ah) (w:aZ) (j:ax) (z:List ao) (Sk:List ab) (B:cx),aB b G w j h->bN z Sk->u z j B->
  wpAny (aM b.prog b.w) b.A (call F Sk) (e_ b G w B) b.cH h)
def te(u:bB)(SP S7:bZ):bZ:=(λw j B=>SP w j λf R5=>S7 w R5 λD Sf=>u f D Sf B)
def LS(u:ao->ax->cx->Prop)(SP:bZ):bZ:=(λw j B=>SP w j λf R5=>u f R5 B)
def pI(ae:Int->Int->Prop)(L:Int->Int->ao):bB:=(λf D j B=>∃a r,f=.int a/\D=.int r/\ae a r/\B (L a r) j)
def kZ(L:Int->Int->ao):bB:=(λf D j B=>∃a r,f=.int a/\D=.int r/\B (L a r) j)
def z5(L:Int->ao):ao->ax->cx->Prop:=(λf j B=>∃a,f=.int a/\B (L a) j)
section
variable{b:aJ}{g e p:bj}{SP S7 Tw:bZ}{Sd:Pos}
def wQ(i:bH b g SP)(k:bH b e S7){G:List (ag×a3)}{h:ah}{w:aZ}{j:ax}{R1:ao->ao->ax->Prop}(l:aB b G w j h)(d:SP w j λf R5=>S7 w R5 λD Sf=>R1 f D Sf){B:ab->ah->Prop}{F:ab->ab->c8 ab}(m:∀s I a f D Sf,aB b G w Sf a->b2 f s->b2 D I->R1 f D Sf->wpAny (aM b.prog b.w) b.A (F s I) B b.cH a):
  wpAny (aM b.prog b.w) b.A (bK g b.env) (λs n=>wpAny (aM b.prog b.w) b.A (bK e b.env) (λI o=>wpAny (aM b.prog b.w) b.A (F s I) B b.cH o) b.cH n) b.cH h:=by
 refine bO (i G h w j _ l d) λs p c=>?_;let⟨f,@R5,q,r,t⟩:=c;refine bO (k G p w R5 _ q t) λI a c=>?_;let⟨D,@Sf,u,v,x⟩:=c;exact m s I a f D Sf u r v x
def KS{SJ:xx}(a:dO b (fH SJ) u)(c:bH b g SP)(i:bH b e S7):bH b (.BinOp g SJ e Sd) (te u SP S7):=by
 intro G h w j B l d;exact wpAny_BinOp (wQ c i l d λs I k f D Sf m n o q=>a G k w Sf f D s I B m n o q)
def Pw{SJ:UnaryOp}{u:ao->ax->cx->Prop}(a:xw b (unaryOp SJ) u)(c:bH b g SP):bH b (.UnaryOp SJ g Sd) (LS u SP):=by
 intro G h w j B l d;exact UnaryOp_ (bO (c G h w j _ l d) λs e ⟨f,R5,i,k,m⟩=>a G e w R5 f s B i k m)
def sy{ae:Int->Int->Prop}(c:∀(a r:Int) (y I:gJ) (h:ah) (B:ab->ah->Prop) (RW:ab->ah->Prop),ae a r->B (.int (L a r) h.toks) {h with toks:=h.toks+1}->wpAny (aM b.prog b.w) b.A (F (.int a y)<|.int r I) B RW h):
  dO b F (pI ae λa r=>.int<|L a r):=by
 intro G h w j f D s I B l e g d;let⟨a,@r,rfl,rfl,i,q⟩:=d;let⟨@y,rfl⟩:=e;let⟨@Sw,rfl⟩:=g;exact c a r y Sw h _ _ i ⟨.int<|L a r,j,l.tok _,⟨_,rfl⟩,q⟩
def ET(c:∀(a r:Int) (y I:gJ) (h:ah) (B:ab->ah->Prop) (RW:ab->ah->Prop),B (.int (L a r) h.toks) {h with toks:=h.toks+1}->wpAny (aM b.prog b.w) b.A (F (.int a y)<|.int r I) B RW h):
  dO b F (kZ λa r=>.int<|L a r):=by
 intro G h w j f D s I B l e g d;let⟨a,@r,rfl,rfl,q⟩:=d;let⟨@y,rfl⟩:=e;let⟨@Sw,rfl⟩:=g;exact c a r y Sw h _ _ ⟨.int<|L a r,j,l.tok _,⟨_,rfl⟩,q⟩
def t_{L:Int->Int->Bool}(c:∀(a r:Int) (y I:gJ) (h:ah) (B:ab->ah->Prop) (RW:ab->ah->Prop),B (.bool<|L a r) h->wpAny (aM b.prog b.w) b.A (F (.int a y)<|.int r I) B RW h):
  dO b F (kZ λa r=>.aN<|L a r):=by
 intro G h w j f D s I B l e g d;let⟨a,@r,rfl,rfl,q⟩:=d;let⟨@y,rfl⟩:=e;let⟨@Sw,rfl⟩:=g;exact c a r y Sw h _ _ ⟨.aN<|L a r,j,l,rfl,q⟩
def Md(a r:Int):Prop:=(0<r/\r<1073741824)
def Na(a r:Int):Prop:=(0<=r/\r<=1000000/\a.natAbs<2^64)
def PC:dO b (fH .Add) (kZ λa r=>.int<|a+r):=ET λ_ W W W W W W q=>add_int q
def Nz:dO b (fH .Sub) (kZ λa r=>.int<|a-r):=ET λ_ W W W W W W q=>sub_int q
def MB:dO b (fH .FloorDiv) (pI Md λa r=>.int<|a/r):=sy λa r W W W W W c q=>by
 have t:(0:Int)<r:=c.1;have A:r<1073741824:=c.2;exact floordiv_int ⋯ (by rw[Int.fdiv_eq_ediv_of_nonneg a ⋯];exact q) (.inl (PyProof.noPylong_small ⋯))
def Ll:dO b (fH .Mod) (pI (λ_ r=>0<r) λa r=>.int<|a%r):=sy λa r W W W W W c q=>by
 have t:(0:Int)<r:=c;exact mod_int' ⋯ (by rw[Int.fmod_eq_emod_of_nonneg a ⋯];exact q)
def IX:dO b (fH .Pow) (pI Na λa r=>.int<|a^r.toNat):=sy λ_ W W W W W W c q=>pow_int_small c.1 c.2.1 c.2.2 q
def II{F:ab->c8 ab}{L:Int->Int}(c:∀(a:Int) (y:gJ) (h:ah) (B:ab->ah->Prop) (RW:ab->ah->Prop),B (.int (L a) h.toks) {h with toks:=h.toks+1}->wpAny (aM b.prog b.w) b.A (F<|.int a y) B RW h):
  xw b F (z5 λa=>.int<|L a):=by
 intro G h w j f s B l e d;let⟨@a,rfl,q⟩:=d;let⟨@y,rfl⟩:=e;exact c a y h _ _ ⟨.int<|L a,j,l.tok _,⟨_,rfl⟩,q⟩
def QL:xw b (unaryOp .USub) (z5 λa=>.int<|-a):=II λ_ W W W W q=>neg_int q
def Le:dO b (ej .Lt) (kZ λa r=>.aN<|decide (a<r)):=t_ λ_ W W W W W W q=>lt_int q
def O6:dO b (ej .LtE) (kZ λa r=>.aN<|decide (a<=r)):=t_ λ_ W W W W W W q=>le_int q
def I_:dO b (ej .Gt) (kZ λa r=>.aN<|decide (r<a)):=t_ λ_ W W W W W W q=>gt_int q
def PB:dO b (ej .GtE) (kZ λa r=>.aN<|decide (r<=a)):=t_ λ_ W W W W W W q=>ge_int q
def dO.or(d:dO b F u)(RU:dO b F SW):dO b F (λf D j B=>u f D j B\/SW f D j B):=by
 intro G h w j f D s I B l a c q;rcases q with q|q
 ·exact d G h w j f D s I B l a c q
 ·exact RU G h w j f D s I B l a c q
def fD(e:bj){SJ:kv}(d:SJ≠.In:=by decide)(A:SJ≠.NotIn:=by decide):n6 SJ e=ay:=by
 have a:(SJ==kv.In)=ay:=by cases SJ<;>first|rfl|exact absurd rfl d
 have b:(SJ==kv.NotIn)=ay:=by cases SJ<;>first|rfl|exact absurd rfl A
 cases e<;>simp[n6,a,b]
def Rf(a:dO b (ej SJ) u)(c:bH b g SP)(i:bH b e S7)(k:n6 SJ e=ay):bH b (.Compare g [SJ] [e] Sd) (te u SP S7):=by
 intro G h w j B l d;exact wpAny_Compare1 (wQ c i l d λs I m f D Sf n o p q=>a G m w Sf f D s I B n o p q) k
def Gj(y:bZ):ei:=(λw j B=>y w j λf S=>∃n,f=.aN n/\B n S)
def IV(a:dO b (ej SJ) u)(i:bH b g SP)(k:bH b e S7)(m:n6 SJ e=ay):ih b (.Compare g [SJ] [e] Sd) (Gj<|te u SP S7):=by
 intro G h w j B l d;refine wpAny_isTrue_Compare1 (bO (i G h w j _ l d) λs o ⟨f,R5,q,r,t⟩=>bO (k G o w R5 _ q t) λI v ⟨D,Sf,x,y,z⟩=>
  bO (a G v w Sf f D s I _ x r y z) λp J ⟨C,A,E,F,n,c,H⟩=>?_) m;subst c;cases F;exact sd ⟨A,E,H⟩
def D5(u SW:bB)(SP S7 Tw:bZ):bZ:=(λw j B=>SP w j λf R5=>S7 w R5 λD Sf=>u f D Sf λC a=>∃n,C=.aN n/\
 (if n=aa then Tw w a λb c=>SW D b c B else B (.aN ay) a))
def Jb{a:kv}(q:dO b (ej SJ) u)(r:dO b (ej a) SW)(t:bH b g SP)(v:bH b e S7)(y:bH b p Tw)(z:lastMarks [SJ,a] [e,p]=ay:=by with_unfolding_all rfl):ih b (.Compare g [SJ,a] [e,p] Sd) (Gj<|D5 u SW SP S7 Tw):=by
 intro G h w j B l d;refine isTrue_chain (bO (t G h w j _ l d) λs A ⟨f,R5,E,F,H⟩=>test_link (bO (v G A w R5 _ E H) λI J ⟨D,Sf,L,i,M⟩=>
  bO (q G J w Sf f D s I _ L F i M) λx N ⟨C,k,m,O,n,c,o⟩=>?_)) z;subst c;cases O;refine sd ?_;cases n with
 |false=>
  let⟨@bi,P,Q⟩:=o;cases P;exact ite_ff ⟨k,m,Q⟩
 |true=>
  refine ite_tt (test_last<|bO (y G N w k _ m o) λR S ⟨T,U,al,am,an⟩=>bO (r G S w U D T I R _ al i am an) λbm bn ap=>?_);let⟨bs,@as,a1,a2,⟨@bv,bd,be⟩⟩:=ap;subst bd;cases a2;exact sd ⟨as,a1,be⟩
def pe:(sizeLine:Nat)<2^63:=by rw[yb];decide
def MF:dO b (fH .Add) (λf D j B=>∃a r,f=.str a/\D=.str r/\a.length+r.length<=sizeLine/\B (.str<|a++r) j):=by
 intro G h w j f D s I B l c e d;let⟨a,@r,rfl,rfl,g,q⟩:=d;let⟨@y,rfl⟩:=c;let⟨@Sw,rfl⟩:=e;exact add_str (λSw SD=>⟨.str<|a++r,j,l.tok _,⟨_,rfl⟩,q⟩) g
def i7{f:ao}(u:bN [f] Sk):∃I,Sk=[I]/\b2 f I:=by
 cases u with
 |cons a b=>cases b;exact⟨_,rfl,a⟩
def q9{f:ao}(u:bN [f,D] Sk):∃I a,Sk=[I,a]/\b2 f I/\b2 D a:=by
 cases u with
 |cons b c=>
  cases c with
  |cons d e=>cases e;exact⟨_,_,rfl,b,d⟩
def OR(e:b.calm=aa):e7 b (.builtin "max") (λz j B=>∃a r,z=[.int a,.int r]/\B (.int<|if r>a then r else a) j):=by
 intro G h w j z Sk B l u d;let⟨a,@r,rfl,q⟩:=d;let⟨I,@f,rfl,⟨@y,rfl⟩,⟨@Sw,rfl⟩⟩:=q9 u;refine max_two_ints (l.ok.hd e) λRU SD n=>⟨_,j,l.kept n,?_,q⟩;by_cases c:r>a
 ·rw[aD c,aD c];exact⟨_,rfl⟩
 ·rw[aG c,aG c];exact⟨_,rfl⟩
def P7(e:b.calm=aa):e7 b (.builtin "min") (λz j B=>∃a r,z=[.int a,.int r]/\B (.int<|if r<a then r else a) j):=by
 intro G h w j z Sk B l u d;let⟨a,@r,rfl,q⟩:=d;let⟨I,@f,rfl,⟨@y,rfl⟩,⟨@Sw,rfl⟩⟩:=q9 u;refine min_two_ints (l.ok.hd e) λRU SD n=>⟨_,j,l.kept n,?_,q⟩;by_cases c:r<a
 ·rw[aD c,aD c];exact⟨_,rfl⟩
 ·rw[aG c,aG c];exact⟨_,rfl⟩
def Im:e7 b (.type "int") (λz j B=>(∃a,z=[.int a]/\B (.int a) j)\/∃n,z=[.aN n]/\B (.int<|if n then 1 else 0) j):=by
 intro G h w j z Sk B l u d;rcases d with ⟨a,rfl,q⟩|⟨n,rfl,q⟩
 ·let⟨@I,rfl,⟨@y,rfl⟩⟩:=i7 u;exact call_int_int ⟨.int a,j,l,⟨_,rfl⟩,q⟩
 ·let⟨@I,rfl,c⟩:=i7 u;cases c;exact call_int_bool ⟨.int<|if n then 1 else 0,j,l.tok _,⟨_,rfl⟩,q⟩
end
structure nS(d:aV)(f SI ae:ag)(S5:au->Option ab):Prop where
 obj:d.get? f=Z (Ω ae SI)
 ns:d.Ns1 SI S5
 ne:SI≠f
def QW(v:d.Ns1 SI S5):∃Tb,d.get? SI=Z Tb/\∀name,Φc name Tb=Z (S5 name):=by
 let⟨m,U,@Ss,a,b,e,T,f⟩:=v;refine⟨m,a,λname=>?_⟩;have c:=f name;unfold nsFind findBy at c;rw[<-Array.find?_toList]at c;unfold Φc;rw[b];dsimp only;split
 ·rename_i D q;rw[q]at c;exact congrArg Z c
 ·rename_i q;rw[q]at c;have g:U.toList.any (·.refKey)=ay:=by
   rw[List.any_eq_false];intro D h;let⟨C,@y,i⟩:=e D (vV.mp h);simp[x2.refKey,i]
  have j:¬ U.toList.any (·.refKey)=aa:=by rw[g];exact c4
  rw[aG j];exact congrArg Z c
def nS.look{f:ag}(l:nS d f SI ae S5):∃Tb,PySem.W.InstAt d f (Ω ae SI) ae (Z Tb)/\∀name,Φc name Tb=Z (S5 name):=
 let ⟨Tb,a,b⟩:=QW l.ns
 ⟨Tb,⟨l.obj,rfl,rfl,a⟩,b⟩
section
variable{R3:bp}{H:a7}{O:bf}{RW:ab->ah->Prop}{h:ah}{Q:Φ}{f SI ae F:ag}{S5:au->Option ab}{name:au}{s:ab}
def OL{a:Bool}(b:Q.In h.heap)(l:nS h.heap f SI ae S5)(c:Φd Q ae name=aa)(e:Φf Q ae=aa)(g:Θ Q (.ref ae) name=Z V)(i:S5 name=Z s)(j:PySem.W.handedIn s=aa)(d:B s {h with toks:=h.toks+1}):
  wpAny (aM R3 H) O (getAttr (.ref f) name a) B RW h:=by
 let⟨@Tb,SY,k⟩:=l.look;exact PySem.W.get_value b SY (yh c).1 (PySem.W.findObj_own e g rfl (by rw[k,i])) j d
def Ia{a5:c8 Bool}{B:ab×List ab->ah->Prop}(b:Q.In h.heap)(l:nS h.heap f SI ae S5)(a:Φd Q ae name=aa)(c:Θ Q (.ref ae) name=Z (Z<|.ref F))(bL:Φb Q (.ref F)=aa)(e:S5 name=V)(d:B (.ref F,[.ref f]) h):
  wpAny (aM R3 H) O (rf (.ref f) name a5) B RW h:=by
 let⟨@Tb,SY,g⟩:=l.look;exact PySem.W.method_fn b SY (yh a).1 (yh a).2 c (iQ.mp bL) (by show (Φc name Tb).map (·.isSome)=Z ay;rw[g,e];rfl) d
def QS{P:List au}{B:Unit->ah->Prop}(b:Q.In h.heap)(l:nS h.heap f SI ae S5)(R6:Θ Q (.ref ae) "__setattr__" = Z (Z<|.builtin "object.__setattr__"))(i:PySem.W.plainOver Q ae=aa)(bL:Φg Q ae name=Z V)(j:Φf Q ae=aa)(k:PySem.Within S5 P)(t:P.length<=sizeLine)(d:∀RU,nS RU f SI ae (λD=>if D=name then Z s else S5 D)->aV.SameBut SI h.heap RU->B () {h with heap:=RU,toks:=h.toks+2}):
  wpAny (aM R3 H) O (setAttr (.ref f) name s) B RW h:=by
 let⟨@Tb,SY,v⟩:=l.look;refine PySem.W.set_plain b SY R6 (PySem.W.osa_open (s:={h with toks:=h.toks+1}) (r:=V) b SY i bL λe=>?_);let⟨@w,m,n⟩:=PySem.W.any_some j;have o:h.heap.get? f=Z ⟨.ref ae,Z SI,.plain,#[]⟩:=l.obj;refine aw (aR<|aw<|aw<|wpAny_loadPart o<|aw<|PQ (s:={h with toks:=h.toks+1}) (PySem.W.looks_clsIn b m) ?_);rw[n];refine aR (a:=Z SI) (aw<|aR<|aw ?_);refine wpAny_nsSet1 (s:={h with toks:=h.toks+1}) l.ns λRU a c=>?_;let⟨x,y,@z,p,q,r⟩:=a.count (Nn name s k);refine aw (wpAny_lookBehind p (by rw[q];exact pastItsLine_dict (dx r (by rw[dA];lia))) ?_);exact aR (d _ ⟨(c.2 _<|eH l.ne).trans l.obj,a,l.ne⟩ c)
def HE{R1:mA->ah->Prop}{T:List ab}(b:Q.In h.heap)(a:Φh Q ae=aa)(RT:Θ Q (.ref ae) "__init__" = Z (Z<|.ref F))(c:PySem.W.typeIn Q (.ref F)=Z (.type "function"))(d:codeAny (aM R3 H) (O.under<|.builtin "type.__call__" ⟨.ref ae::T,Ti⟩) (.call (.ref F) ⟨.ref (h.heap.objs.size+1)::T,Ti⟩) (PySem.W.InitBack (h.heap.objs.size+1) R1)
   {h with heap:=(h.heap.push Γ).push (Ω ae h.heap.objs.size)}):
  codeAny (aM R3 H) O (.call (.ref ae) ⟨T,Ti⟩) R1 h:=by
 let⟨e,L,x,y,M⟩:=h;exact PySem.W.make_core (PySem.W.makes_of b a) (PySem.W.looks_findIn b RT) (λself=>PySem.W.bind_fn b self c) (.inl rfl) d
end
def ec(F:au)(s:ao):List (au×ao)->List (au×ao)
 |[]=>[(F,s)]
 | (L,f)::u=>if L=F then (L,s)::u else (L,f)::ec F s u
theorem E9(F L:au)(s:ao):∀ak:List (au×ao),(ec F s ak).lookup L=if L=F then Z s else ak.lookup L
 |[]=>by
  show List.lookup L [(F,s)]=_;by_cases d:L=F
  ·have a:(L==F)=aa:=iQ.mpr d;simp only[List.lookup,a,aD d]
  ·have a:(L==F)=ay:=lS.mpr d;simp only[List.lookup,a,aG d]
 | (n,f)::u=>by
  have e:=E9 F L s u;rw[show ec F s ((n,f)::u)=(if n=F then (n,s)::u else (n,f)::ec F s u) from rfl];by_cases b:n=F
  ·rw[aD b];by_cases d:L=n
   ·have a:(L==n)=aa:=iQ.mpr d;simp only[List.lookup,a,aD<|d.trans b]
   ·have a:(L==n)=ay:=lS.mpr d;simp only[List.lookup,a,aG (λc:L=F=>d<|c.trans b.symm)]
  ·rw[aG b];by_cases d:L=n
   ·have a:(L==n)=aa:=iQ.mpr d;simp only[List.lookup,a,aG (λc:L=F=>b<|d.symm.trans c)]
   ·have a:(L==n)=ay:=lS.mpr d;simp only[List.lookup,a];exact e
theorem yN(F:au)(s:ao):∀ak:List (au×ao),F∈(ec F s ak).map (·.1)/\∀L,L∈ak.map (·.1)->L∈(ec F s ak).map (·.1)
 |[]=>⟨by simp[ec],λL d=>by simp at d⟩
 | (n,f)::u=>by
  let@⟨b,e⟩:=yN F s u;rw[show ec F s ((n,f)::u)=(if n=F then (n,s)::u else (n,f)::ec F s u) from rfl];by_cases a:n=F
  ·rw[aD a];subst a;exact⟨by simp,λL d=>by simpa using d⟩
  ·rw[aG a];refine⟨?_,λL d=>?_⟩
   ·rw[bY];exact jc _ b
   ·rw[bY]at d ⊢;rcases cc.mp d with c|c
    ·exact cc.mpr (.inl c)
    ·exact jc _ (e L c)
theorem EN(F:au)(s:ao):∀ak:List (au×ao),(ec F s ak).length<=ak.length+1
 |[]=>by simp[ec]
 | (n,f)::u=>by
  have b:=EN F s u;rw[show ec F s ((n,f)::u)=(if n=F then (n,s)::u else (n,f)::ec F s u) from rfl];by_cases a:n=F
  ·rw[aD a,dA,dA];lia
  ·rw[aG a,dA,dA];lia
def gU.some_of{m:Option ab}(u:gU (Z s) m):∃I,m=Z I/\b2 s I:=by
 cases m with
 |none=>exact (show False from u).elim
 |some I=>exact⟨I,rfl,u⟩
def gU.none_of{m:Option ab}(u:gU V m):m=V:=by
 cases m with
 |none=>rfl
 |some I=>exact (show False from u).elim
def QF(u:b2 s I):PySem.W.handedIn I=aa:=by
 cases s with
 |aX=>cases (show I=ab.none from u);rfl
 |aN e=>cases (show I=ab.bool e from u);rfl
 |int a=>let⟨@y,c⟩:=(show ∃y,I=ab.int a y from u);cases c;rfl
 |str f=>let⟨@y,c⟩:=(show ∃y,I=ab.str f y from u);cases c;rfl
 |tf e=>let⟨@y,c⟩:=(show ∃y,I=ab.bytes e y from u);cases c;rfl
 |sM e=>let⟨@y,c⟩:=(show ∃y,I=ab.float e y from u);cases c;rfl
 |ref g=>cases (show I=ab.ref g from u);rfl
 |ty v=>cases (show I=ab.type v from u);rfl
section
variable{R4:bp}{H:a7}{j S:ax}{d RU:aV}{g ae SI:ag}{ak i:List (au×ao)}
def wI(a0:dI R4 H j d)(c:j g=Z (.ins ae SI ak)):∃S5,nS d g SI ae S5/\(∀F,gU (ak.lookup F)<|S5 F)/\PySem.Within S5 (ak.map (·.1))/\ak.length<=1000/\j SI=Z (.own g):=by
 let@⟨x,C,ne,aS,⟨@S5,v,u,q⟩⟩:=(show d9 R4 H j d g (.ins ae SI ak) from a0 g _ c);exact⟨S5,⟨aS,v,ne⟩,u,q,C,x⟩
end
structure gx(Q:Φ)(ae:ag):Prop where
 Ny:Φd Q ae au.empty=aa
 hd:Φf Q ae=aa
 po:PySem.W.plainOver Q ae=aa
 aI:Θ Q (.ref ae) "__setattr__" = Z (Z<|.builtin "object.__setattr__")
def gx.get(p:gx Q ae)(F:au):Φd Q ae F=aa:=p.Ny
def eE(Q:Φ)(ae:ag)(F:au):Prop:=(Θ Q (.ref ae) F=Z V)
def eE.Qh{F:au}(v:eE Q ae F):Φg Q ae F=Z V:=by
 unfold Φg;rw[show Θ Q (.ref ae) F=Z V from v];rfl
structure dG(Q:Φ)(ae:ag)(i:au)(F:ag):Prop where
 at_:Θ Q (.ref ae) i=Z (Z<|.ref F)
 fn:Φb Q (.ref F)=aa
 cL:Δ Q (.ref F)=aa
section
variable{b:aJ}{G:List (ag×a3)}{w:aZ}{j:ax}{h:ah}{g ae SI:ag}{ak:List (au×ao)}{F:au}{s:ao}{O:bf}{RW:ab->ah->Prop}
def Lu{e:Bool}(l:aB b G w j h)(c:j g=Z (.ins ae SI ak))(p:gx b.K ae)(v:eE b.K ae F)(J:ak.lookup F=Z s)(d:∀I RV,aB b G w j RV->b2 s I->B I RV):wpAny (aM b.prog b.w) O (getAttr (.ref g) F e) B RW h:=by
 let⟨@S5,f,u,W,W,W⟩:=wI l.a0 c;let⟨@I,i,a⟩:=gU.some_of (s:=s) (m:=S5 F) (by rw[<-J];exact u F);exact OL l.hr f (p.get F) p.hd v i (QF a) (d I _ (l.tok _) a)
def Oq{i:au}{L:ag}{a5:c8 Bool}{B:ab×List ab->ah->Prop}(l:aB b G w j h)(c:j g=Z (.ins ae SI ak))(p:gx b.K ae)(n:dG b.K ae i L)(J:ak.lookup i=V)(d:B (.ref L,[.ref g]) h):wpAny (aM b.prog b.w) O (rf (.ref g) i a5) B RW h:=by
 let⟨@S5,a,u,W,W,W⟩:=wI l.a0 c;have e:S5 i=V:=gU.none_of (by rw[<-J];exact u i);exact Ia l.hr a (p.get i) n.at_ n.fn e d
def KC{B:Unit->ah->Prop}(l:aB b G w j h)(c:j g=Z (.ins ae SI ak))(p:gx b.K ae)(v:eE b.K ae F)(z:ak.length<1000)(o:b2 D I)(d:∀RV,aB b G w (upd j g<|.ins ae SI<|ec F D ak) RV->B () RV):wpAny (aM b.prog b.w) O (setAttr (.ref g) F I) B RW h:=by
 let⟨@S5,a,u,E,W,n⟩:=wI l.a0 c;have r:(ak.map (·.1)).length<=sizeLine:=by rw[bt,yb];lia
 refine QS l.hr a p.aI p.po v.Qh p.hd E r λRU i cJ=>d _ ?_;have s:∃m,RU.get? SI=Z m:=let ⟨m,_,_,t,_⟩:=i.ns;⟨m,t⟩
 refine l.write (f:=g) (c:=SI) (by rw[c];exact True.intro) (.inr n) (λe q x C=>(cJ.2 e x).trans C) s ?_;refine⟨by rw[b9 a.ne];exact n,?_,a.ne,i.obj,_,i.ns,λL=>?_,λL y=>?_⟩
 ·have:=EN F D ak;lia
 ·show gU ((ec F D ak).lookup L) (if L=F then Z I else S5 L);rw[E9];by_cases q:L=F
  ·rw[aD q,aD q];exact o
  ·rw[aG q,aG q];exact u L
 ·by_cases q:L=F
  ·rw[q];exact (yN F D ak).1
  ·refine (yN F D ak).2 L (E L λC=>y ?_);show (if L=F then Z I else S5 L)=V;rw[aG q];exact C
def aB.made(l:aB b G w j h):aB b G w (upd (upd j h.heap.objs.size<|.own<|h.heap.objs.size+1) (h.heap.objs.size+1)<|.ins ae h.heap.objs.size [])
  {h with heap:=(h.heap.push Γ).push (Ω ae h.heap.objs.size)}:=by
 have a:(h.heap.push Γ).get? h.heap.objs.size=Z Γ:=dh h.heap rfl;have d:((h.heap.push Γ).push<|Ω ae h.heap.objs.size).get? (h.heap.objs.size+1)=Z (Ω ae h.heap.objs.size):=by
  have:=dh (h.heap.push Γ) (o:=Ω ae h.heap.objs.size) rfl
  rwa [iF]at this
 have f:(h.heap.push Γ).Ns h.heap.objs.size (λ_=>V):=⟨Γ,#[],_,a,rfl,(λc i=>absurd i ↥0),λ_=>rfl⟩;have k:=l.laid (g:=h.heap.objs.size) (m:=.own (h.heap.objs.size+1)) (RU:=h.heap.push Γ) (Sw:=h.toks) (λe I q=>cg _ q) (bl _) ⟨_,a⟩;refine k.laid (g:=h.heap.objs.size+1) (m:=.ins ae h.heap.objs.size []) (Sw:=h.toks) (λe I q=>cg _ q) (BW<|iF _ _) ?_;have ne:h.heap.objs.size≠h.heap.objs.size+1:=cR (k6 _);refine⟨by rw[b9 ne,dV],gP _,ne,d,λ_=>V,(aV.Ns1.of_empty f).at λm q=>cg _ q,λ_=>True.intro,λD n=>absurd rfl n⟩
def Iw{R3:bp}{RZ:ee}{F:au}{h:ah}(a:kV c F RZ (bK c RZ)=bK c RZ)(d:wpAny (aM R3 H) O (bK c RZ) (λm b=>wpAny (aM R3 H) O (getAttr m F aa) B RW b) RW h):wpAny (aM R3 H) O (bK (.Attribute c F Sd) RZ) B RW h:=
 Attribute_any_ d (by rw[arm_eval_Attribute,a])
end
def Kh(Q:Φ)(SP:bZ)(F:au):bZ:=(λw j B=>SP w j λf R5=>∃g ae SI ak s,f=.ref g/\R5 g=Z (.ins ae SI ak)/\gx Q ae/\eE Q ae F/\ak.lookup F=Z s/\B s R5)
def LC(Q:Φ)(SP i:bZ)(F:au):eA:=(λk w j=>i w j λD R5=>SP w R5 λf Sf=>∃g ae SI ak,f=.ref g/\Sf g=Z (.ins ae SI ak)/\gx Q ae/\eE Q ae F/\ak.length<1000/\
 k.aL w (upd Sf g<|.ins ae SI<|ec F D ak))
section
variable{b:aJ}{m c Tj:bj}{F:au}{Sd y t:Pos}{SP i:bZ}
def pW(a:bH b c SP)(e:kV c F b.env (bK c b.env)=bK c b.env):bH b (.Attribute c F Sd) (Kh b.K SP F):=by
 intro G h w j B l d;refine Iw e (bO (a G h w j _ l d) λI t i=>?_);let⟨f,@R5,k,m,⟨g,ae,SI,ak,@s,SQ,n,p,v,J,q⟩⟩:=i;subst SQ;obtain rfl:I=ab.ref g:=m;exact Lu k n p v J λu x o r=>⟨s,R5,o,r,q⟩
def NQ(a:bH b m SP)(c:bH b Tj i)(R6:nN Tj (Z<|.Attribute m F y) Sd.line b.env=pure ay):hK b (.Assign [.Attribute m F y] Tj Sd) (LC b.K SP i F):=by
 intro G h w j k l d;refine plainObj_wpAny_Assign_Attribute (bO (c G h w j _ l d) λI e ⟨D,R5,n,o,q⟩=>bO (a G e w R5 _ n q) λr A ⟨f,Sf,s,t,g,ae,SI,ak,SQ,u,p,v,J,x⟩=>?_) R6;subst SQ;obtain rfl:r=ab.ref g:=t;exact KC s u p v J o λB z=>⟨w,_,z,x⟩
end
structure dd(n:Nat)(O:bf):Prop where
 hd:O.handled=V
 sZ:O.depth+3*n+5<Gw
 un:O.units+16*n+200<bD
 vm:O.guards=Z []
def dd.mono(u:dd n O)(d:r<=n):dd r O:=⟨u.hd,by have:=u.sZ;lia,by have:=u.un;lia,u.vm⟩
def dd.deeper(u:dd (n+1) O)(RZ:ee):dd n (O.deeper RZ):=
 ⟨u.hd,by have:=u.sZ;show O.depth+1+3*n+5<_;lia,by have:=u.un;show O.units+3+16*n+200<_;lia,u.vm⟩
def O7:(O.under<|.builtin "type.__call__" ⟨.ref ae::Sk,Ti⟩).depth=O.depth+1:=by
 first|rfl|simp[bf.under,hE.weight,hE.isCreation,hE.isGuard,hE.isCaller,hE.frames,hE.isFrame,guardIds]
def IQ:(O.under<|.builtin "type.__call__" ⟨.ref ae::Sk,Ti⟩).units=O.units+1:=by
 first|rfl|simp[bf.under,hE.cUnits,hE.frames,hE.isFrame]
def dd.make(u:dd (n+1) O)(ae:ag)(Sk:List ab)(Ti:List (au×ab)):dd n (O.under<|.builtin "type.__call__" ⟨.ref ae::Sk,Ti⟩):=
 ⟨u.hd,by have:=u.sZ;rw[O7];lia,by have:=u.un;rw[IQ];lia,by
  have:=u.vm;first|exact this|(simp[bf.under,hE.guards,hE.isGuard,guardIds,pushGuards];exact this)⟩
def dd.depth(u:dd n O):O.depth<Gw:=by have:=u.sZ;lia
def zr:ew:=(λ_ j B=>B [] j)
def L3(SP:bZ)(a:ew):ew:=(λw j B=>SP w j λf R5=>a w R5 λz Sf=>B (f::z) Sf)
section
variable{b:aJ}{c:bj}{U:List bj}{S9:bZ}{y:ew}{Sd:Pos}
def yG:gS b [] zr:=λ_ W W W j B l d=>F4 ⟨[],j,l,.nil,d⟩
def uA(e:bH b c S9)(g:gS b U y)(R6:bC (c::U) b.env=(ay,bK c b.env)::bC U b.env:=by rfl):gS b (c::U) (L3 S9 y):=by
 intro Sd G h w j B l d;rw[R6];show wpAny _ _ (spliced ((ay,bK c b.env)::ez Sd (bC U b.env))) _ _ h;refine Fy (bO (e G h w j _ l d) λI i a=>?_);let⟨f,@R5,k,m,n⟩:=a;refine bO (g Sd G i w R5 _ k n) λSk r a=>?_;let⟨z,@Sf,o,p,q⟩:=a;exact⟨f::z,Sf,o,.cons m p,q⟩
def IS(y:ew):bZ:=(λw j B=>y w j λz R5=>z.length<=sizeLine/\∀o,R5 o=V->B (.ref o) (upd R5 o<|.tup z))
def HF(y:ew):bZ:=(λw j B=>y w j λz R5=>z.length<=sizeLine/\∀o,R5 o=V->B (.ref o) (upd R5 o<|.lst z))
def LI{g}(d:gS b U y):bH b (.Tuple U g Sd) (IS y):=by
 intro G h w j B l i;refine wpAny_Tuple_spliced (bO (d Sd G h w j _ l i) λSk a ⟨z,R5,f,u,C,q⟩=>⟨by rw[<-u.length];exact C,?_⟩);have k:R5 a.heap.objs.size=V:=f.a0.fresh (bl _);refine⟨.ref a.heap.objs.size,upd R5 a.heap.objs.size<|.tup z,f.laid (Sw:=a.toks) (λe I c=>cg _ c) (bl _) ?_,rfl,q _ k⟩;exact⟨C,Sk,u,⟨_,dh _ rfl,rfl,_,rfl⟩⟩
def Rj(d:gS b U y):bH b (.List U Sd) (HF y):=by
 intro G h w j B l g;refine wpAny_List_spliced (bO (d Sd G h w j _ l g) λSk a ⟨z,R5,f,u,C,q⟩=>⟨by rw[<-u.length];exact C,?_⟩);have i:R5 a.heap.objs.size=V:=f.a0.fresh (bl _);refine⟨.ref a.heap.objs.size,upd R5 a.heap.objs.size<|.lst z,f.laid (Sw:=a.toks) (λe I c=>cg _ c) (bl _) ?_,rfl,q _ i⟩;exact⟨C,Sk,0,u,dh _ rfl⟩
end
abbrev je:=List ao->ax->cx->fh->Prop
abbrev i_:=List ee->ax->ah->fh->ab->ah->Prop
variable{k:i_}
structure ny(R4:bp)(H:a7)(Q:Φ)(aE:au->Option ab)(R7:aV)(O:bf)(SS:List ee)(h:ah)(j:ax):Prop where
 frames:O.frames=Z SS
 mod:Mod Q aE R7
 bs:∀e m,R7.get? e=Z m->h.heap.get? e=Z m/\j e=kp m
 jX:R7.objs.size<=h.heap.objs.size
 hy:h.heap.FunFrames R7 SS
 mn:∀e∈hO SS,j e=V
 a0:dI R4 H j h.heap
 bare:k7 h.gens
def yl(SS:List ee)(R4:bp)(H:a7)(j:ax)(h:ah)(B:cx)(I:ab)(RV:ah):Prop:=(
 ∃s S,RV.os=h.os/\k7 RV.gens/\eT (hO SS) [] j S h.heap RV.heap/\dI R4 H S RV.heap/\b2 s I/\B s S)
def Hm(k:i_)(SS:List ee)(R4:bp)(H:a7)(j:ax)(h:ah)(B:cx)(RW:fh)(u:mA)(RV:ah):Prop:=(
 match u with
 |.ok (.ret I)=>yl SS R4 H j h B I RV
 |.ok _=>False
 |.error c=>k SS j h RW c RV)
structure fM(R4:bp)(H:a7)(Q:Φ)(aE:au->Option ab)(R7:aV)(k:i_)(n:Nat)(F:ag)(fd:fY)(RY:List au)(S6:je):Prop where
 len:∀T j B RW,S6 T j B RW->T.length=RY.length
 run:∀(O:bf) (SS:List ee) (h:ah) (j:ax) (args:Args) (Sk:List ab) (T:List ao) (B:cx) (RW:fh),dd n O->ny R4 H Q aE R7 O SS h j->l7 h fd args (RY.zip Sk)->bN T Sk->S6 T j B RW->
  codeAny (aM R4 H) O (.call (.ref F) args) (Hm k SS R4 H j h B RW) h
def ny.make(c:ny R4 H Q aE R7 O SS h j)(ae:ag)(Sk:List ab)(Ti:List (au×ab)):
  ny R4 H Q aE R7 (O.under<|.builtin "type.__call__" ⟨.ref ae::Sk,Ti⟩) SS h j:=⟨by first|exact c.frames|(simpa [bf.under,hE.envs,hE.isFrame,pushEnvs] using c.frames),c.mod,c.bs,c.jX,c.hy,c.mn,c.a0,c.bare⟩
section
variable{b:aJ}{G:List (ag×a3)}{w:aZ}{j:ax}{h RV:ah}
def aB.FJ(l:aB b G w j h):ny b.prog b.w b.K b.aE b.base b.A b.stack h j:=
 ⟨l.ok.frames,l.ok.mod,l.bs,dx l.ok.jX l.gr,l.stack,l.FW,l.a0,l.bare⟩
def aB.after{B:cx}(l:aB b G w j h)(d:yl b.stack b.prog b.w j h B I RV):e_ b G w B I RV:=by
 let⟨s,@S,M,a,un,a0,u,q⟩:=d;let⟨c,L,x,y,f⟩:=RV;obtain rfl:f=h.os:=M;exact⟨s,S,l.call (RU:=c) (g:=L) (r:=x) (Sw:=y) (Td:=[]) un a0 a (λe C=>absurd C ↥0),u,q⟩
end
def DC(S6:je)(t:List ao)(RW:fh)(y:ew):bZ:=(λw j B=>y w j λT R5=>S6 (T++t) R5 B RW)
def GU(ae:ag)(i:au)(S6:je)(t:List ao)(RW:fh)(SP:bZ)(y:ew):bZ:=(λw j B=>SP w j λf R5=>∃g SI ak,f=.ref g/\R5 g=Z (.ins ae SI ak)/\ak.lookup i=V/\
 y w R5 λT Sf=>S6 (f::(T++t)) Sf B RW)
def MU(ae:ag)(S6:je)(t:List ao)(RW:fh)(y:ew):bZ:=(λw j B=>y w j λT R5=>∀f SI,R5 f=V->R5 SI=V->SI≠f->
 S6 (.ref f::(T++t)) (upd (upd R5 SI<|.own f) f<|.ins ae SI []) (λs Sf=>s=.aX/\B (.ref f) Sf) RW)
def fG(Q:Φ)(fd:fY)(RY:List au)(E:List ab):Prop:=(
 ∀(h:ah) (Sk:List ab),Q.In h.heap->(Sk++E).length=RY.length->l7 h fd ⟨Sk,[]⟩ (RY.zip<|Sk++E))
def fG.all{fd:fY}(d:∀Sk:List ab,Sk.length=RY.length->jD fd ⟨Sk,[]⟩=pure (RY.zip Sk)):fG Q fd RY []:=λh Sk W a=>by
 rw[bR]at a ⊢;exact .of_eq (d Sk a)
def nt(k:i_)(b:aJ)(RW:fh):Prop:=(∀(G:List (ag×a3)) (w:aZ) (j:ax) (h:ah) (c:ab) (RV:ah),aB b G w j h->k b.stack j h RW c RV->b.cH c RV)
section
variable{b:aJ}{k:i_}{n:Nat}{F ae:ag}{fd:fY}{RY:List au}{S6:je}{t:List ao}{E:List ab}{RW:fh}{f i:au}{o Sd Tn:Pos}{c m:bj}{U:List bj}{SP:bZ}{y:ew}
def yi{B:cx}(N:fM b.prog b.w b.K b.aE b.base k n F fd RY S6)(f:dd n b.A)(g:fG b.K fd RY E)(i:bN t E)(m:nt k b RW)(l:aB b G w j h)(u:bN T Sk)(d:S6 (T++t) j B RW):wpAny (aM b.prog b.w) b.A (call (.ref F) Sk) (e_ b G w B) b.cH h:=by
 have e:bN (T++t) (Sk++E):=u.append i;have o:(Sk++E).length=RY.length:=by rw[<-e.length];exact N.len _ _ _ _ d
 refine xS (pn (N.run b.A b.stack h j ⟨Sk,[]⟩ (Sk++E) (T++t) B RW f l.FJ (g h Sk l.hr o) e d) λu RV a=>?_);cases u with
 |error c=>exact m G w j h c RV l a
 |ok aT=>
  cases aT with
  |ret I=>exact l.after a
  |next=>exact False.elim a
  |brk=>exact False.elim a
  |cont=>exact False.elim a
def OC(N:fM b.prog b.w b.K b.aE b.base k n F fd RY S6)(e:dd n b.A)(g:ep b f)(i:b.aE f=Z (.ref F))(m:Δ b.K (.ref F)=aa)(p:fG b.K fd RY E)(r:bN t E)(s:nt k b RW)(v:gS b (c::U) y)(x:(f==("__debug__" : au))=ay:=by decide)(z:bC (c::U) b.env=(ay,bK c b.env)::bC U b.env:=by rfl)(C:(ez Sd<|bC U b.env).any (·.1)=ay:=by rfl):
  bH b (.Call (.Name f o) (c::U) [] Sd) (DC S6 t RW y):=by
 intro G h w j B l d;refine pz (rV l g i ?_ x);refine vg (h₀:=b.base) l.ok.mod.qu m (bO (v Sd G h w j _ l d) λSk I ⟨T,R5,a,u,q⟩=>⟨a.hr,?_⟩) z C;exact yi N e p r s a u q
def Hb{a5:c8 Bool}(o:bH b m SP)(p:gx b.K ae)(c:dG b.K ae i F)(N:fM b.prog b.w b.K b.aE b.base k n F fd RY S6)(r:dd n b.A)(s:fG b.K fd RY E)(u:bN t E)(v:nt k b RW)(bL:bK (.Call (.Attribute m i Tn) [] [] Sd) b.env=(do
   let e <-bK m b.env
   standAt Tn.atName
   let (F,first) <-holding [e] (rf e i a5)
   callWith Sd F first (ez Sd<|bC [] b.env) (pT Sd<|q_ [] b.env)):=by rfl):
  bH b (.Call (.Attribute m i Tn) [] [] Sd) (GU ae i S6 t RW SP zr):=by
 intro G h w j B l d;refine PySem.W.methodCall_KW (pl:=a5) (bO (o G h w j _ l d) λI z ⟨f,R5,a,x,g,SI,ak,SQ,y,J,q⟩=>?_) bL;subst SQ;obtain rfl:I=ab.ref g:=x;refine Oq a y p c J ?_;exact PySem.W.callWith_K0 (first:=[.ref g]) a.hr c.cL (yi (Sk:=[.ref g]) (T:=[.ref g]) N r s u v a (.cons rfl .nil) q)
structure k9(Q:Φ)(ae F:ag):Prop where
 makes:Φh Q ae=aa
 init:Θ Q (.ref ae) "__init__" = Z (Z<|.ref F)
 fn:Φb Q (.ref F)=aa
 cL:Δ Q (.ref ae)=aa
def I5{B:cx}(aA:k9 b.K ae F)(N:fM b.prog b.w b.K b.aE b.base k n F fd RY S6)(m:dd (n+1) b.A)(o:fG b.K fd RY E)(p:bN t E)(q:nt k b RW)(l:aB b G w j h)(u:bN T Sk)(d:∀f SI,j f=V->j SI=V->SI≠f->S6 (.ref f::(T++t)) (upd (upd j SI<|.own f) f<|.ins ae SI []) (λs Sf=>s=.aX/\B (.ref f) Sf) RW):
  wpAny (aM b.prog b.w) b.A (call (.ref ae) Sk) (e_ b G w B) b.cH h:=by
 have g:=d (h.heap.objs.size+1) h.heap.objs.size (l.a0.fresh<|si _) (l.a0.fresh<|bl _) (cR<|k6 _);have e:=aB.made (ae:=ae) l;have i:bN (ao.ref (h.heap.objs.size+1)::(T++t)) (ab.ref (h.heap.objs.size+1)::(Sk++E)):=.cons rfl (u.append p);have r:(ab.ref (h.heap.objs.size+1)::Sk++E).length=RY.length:=by
  have c:=i.length;rw[N.len _ _ _ _ g]at c;exact c.symm
 refine xS (HE (F:=F) l.hr aA.makes aA.init (iQ.mp aA.fn)<|pn (N.run _ b.stack _ _ ⟨ab.ref (h.heap.objs.size+1)::Sk,[]⟩ (ab.ref (h.heap.objs.size+1)::(Sk++E)) _ _ RW (m.make ae Sk [])
  (e.FJ.make ae Sk []) (o _ (ab.ref (h.heap.objs.size+1)::Sk) e.hr r) i g) λu RV a=>?_);cases u with
 |error c=>exact q G w _ _ c RV e a
 |ok aT=>
  cases aT with
  |ret I=>
   let⟨s,@S,v,x,y,z⟩:=e.after a;subst y;exact⟨x,⟨ao.ref<|h.heap.objs.size+1,S,v,rfl,z⟩⟩
  |next=>exact False.elim a
  |brk=>exact False.elim a
  |cont=>exact False.elim a
def IP(aA:k9 b.K ae F)(N:fM b.prog b.w b.K b.aE b.base k n F fd RY S6)(e:dd (n+1) b.A)(g:ep b f)(i:b.aE f=Z (.ref ae))(m:fG b.K fd RY E)(p:bN t E)(r:nt k b RW)(s:gS b (c::U) y)(v:(f==("__debug__" : au))=ay:=by decide)(x:bC (c::U) b.env=(ay,bK c b.env)::bC U b.env:=by rfl)(z:(ez Sd<|bC U b.env).any (·.1)=ay:=by rfl):
  bH b (.Call (.Name f o) (c::U) [] Sd) (MU ae S6 t RW y):=by
 intro G h w j B l d;refine pz (rV l g i ?_ v);refine vg (h₀:=b.base) l.ok.mod.qu aA.cL (bO (s Sd G h w j _ l d) λSk D ⟨T,R5,a,u,q⟩=>⟨a.hr,?_⟩) x z;exact I5 aA N e m p r a u q
end
structure lT(Si R4:List au)(y:gV):Prop where
 kind:y.kind=.function
 co:y.isCoroutine=ay
 gen:y.isGenerator=ay
 aj:Si.Nodup
 pre:Si.take R4.length=R4
 par:∀f∈R4,y.names.lookup f=Z .local\/y.names.lookup f=Z .cell
 It:∀D∈y.names,D.2≠.free
theorem AR{a:au->Option cP}{f:au}:∀{binds:List (au×ab)}{i:au->Option ab},(∀s,(f,s)∉binds)->bindL a binds i f=i f
 |[],_,_=>rfl
 | (v,s)::u,i,d=>by
  unfold bindL;rw[AR λH b=>d H<|jc _ b];split
  ·have:f≠v:=by rintro rfl;exact d s lP
   simp[this]
  ·rfl
theorem zu{a:au->Option cP}{f:au}:∀{binds:List (au×ab)}{i:au->Option ab},(∀s,(f,s)∉binds)->bindC a binds i f=i f
 |[],_,_=>rfl
 | (v,s)::u,i,d=>by
  unfold bindC;rw[zu λH b=>d H<|jc _ b];split
  ·rfl
  ·have:f≠v:=by rintro rfl;exact d s lP
   simp[this]
theorem EJ{b:au->Option cP}{f:au}{s:ab}:∀{R4:List au}{T:List ab}{a:Nat}{i:au->Option ab},R4.Nodup->R4[a]?=Z f->T[a]?=Z s->b f=Z .local->
  bindL b (R4.zip T) i f=Z s
 |[],_,_,_,_,d,_,_=>by simp at d
 |_::_,[],_,_,_,_,d,_=>by simp at d
 |o::R4,H::T,0,i,aj,t,A,c=>by
  simp at t A;subst t;subst A;show bindL b ((o,H)::R4.zip T) i o=_;unfold bindL;rw[AR λs e=>(f9.mp aj).1 (ye e).1,aD c];simp
 |o::R4,H::T,a+1,i,aj,t,A,c=>by
  show bindL b ((o,H)::R4.zip T) i f=_;unfold bindL;exact EJ (a:=a) (f9.mp aj).2 ⇑t ⇑A c
theorem Ax{b:au->Option cP}{f:au}{s:ab}:∀{R4:List au}{T:List ab}{a:Nat}{i:au->Option ab},R4.Nodup->R4[a]?=Z f->T[a]?=Z s->b f≠Z .local->
  bindC b (R4.zip T) i f=Z s
 |[],_,_,_,_,d,_,_=>by simp at d
 |_::_,[],_,_,_,_,d,_=>by simp at d
 |o::R4,H::T,0,i,aj,t,A,c=>by
  simp at t A;subst t;subst A;show bindC b ((o,H)::R4.zip T) i o=_;unfold bindC;rw[zu λs e=>(f9.mp aj).1 (ye e).1,aG c];simp
 |o::R4,H::T,a+1,i,aj,t,A,c=>by
  show bindC b ((o,H)::R4.zip T) i f=_;unfold bindC;exact Ax (a:=a) (f9.mp aj).2 ⇑t ⇑A c
def kf(Si:List au)(T:List ao):aZ:=(T.map Z++List.replicate (Si.length-T.length) V)
def j9(k:i_)(R4:bp)(H:a7)(Q:Φ)(aE:au->Option ab)(R7:aV)(Si:List au)(S3:au)(So:gV)(F:ag)(a:ab)(O:bf)(SS:List ee)(h:ah)(j:ax)(RW:fh):aJ where
 prog:=R4
 w:=H
 K:=Q
 aE:=aE
 base:=R7
 A:=O.deeper (h5 S3 So h.heap.objs.size F a)
 N:=Si
 eI:=h
 lG:=j
 env:=h5 S3 So h.heap.objs.size F a
 outer:=SS
 stack:=h5 S3 So h.heap.objs.size F a::SS
 ex:=[]
 calm:=aa
 fn:=λ_=>aa
 ki:=[]
 cH:=λc RV=>wpAny (aM R4 H) (O.deeper<|h5 S3 So h.heap.objs.size F a) (leaving (h5 S3 So h.heap.objs.size F a) c) (λ_ b=>k SS j h RW c b) (λd b=>k SS j h RW d b) RV
def Dz{y:gV}(d:y.names.lookup f=Z .cell):∃p,(vI v y.names []).lookup f=Z p:=by
 have q:=Gb y.names v [] (.inl d);exact EI.mp q
def L5{F:ag}{m:ab}{r:ah}{RW:fh}(Se:lT Si RY So)(z:O.handled=V)(b:ny R4 H Q aE R7 O SS h j)(G:T.length=RY.length)(u:bN T Sk)(f:InCallC h h.heap.objs.size (bindL (h5 S3 So h.heap.objs.size F m).kindOf (RY.zip Sk) λ_=>V) (vI (h.heap.objs.size+1) So.names []) (bindC (h5 S3 So h.heap.objs.size F m).kindOf (RY.zip Sk) λ_=>V) r):
  aB (j9 k R4 H Q aE R7 Si S3 So F m O SS h j RW) [] (kf Si T) j r:=by
 have L:RY.length<=Si.length:=by have:=congrArg List.length Se.pre;rw[gh]at this;lia
 let⟨t,@SD,rfl,w⟩:=f.done;have noA:∀e:ag,e∉(j9 k R4 H Q aE R7 Si S3 So F m O SS h j RW).ex:=λe C=>absurd (show e∈([]:List ag) from C) ↥0;refine⟨⟨b.mod,Se.kind,rfl,rfl,bl _,λD C p t A=>?_,λD i=>?_,λD p W d=>?_,λ_=>z,bf.frames_deeper b.frames,.inr ⟨rfl,rfl⟩,λe C=>absurd C<|noA e,b.bs,b.jX,λe W W=>noA e,λe C=>absurd C<|noA e,b.hy,b.mn⟩,
  rfl,b.bare,eT.kept w,⟨_,f.toInCall.ns,λa D s t A M=>?_⟩,λD p d=>⟨_,f.cell D p d⟩,b.a0.fresh<|bl _,λD p d=>?_,λo l=>absurd (show o∈([]:List (ag×a3)) from l) ↥0,b.a0.kept w,?_⟩
 ·exact name_of_addr f.apart (PySem.mem_of_lookup t) (PySem.mem_of_lookup A)
 ·have i:So.names.lookup D=Z .cell\/So.names.lookup D=Z .free:=i;rcases i with i|i
  ·exact Dz i
  ·exact absurd rfl (Se.It _<|PySem.mem_of_lookup i)
 ·exact lD (f.above D p<|PySem.mem_of_lookup d)
 ·have RT:a<T.length:=by
   unfold kf at A;by_cases RT:a<T.length
   ·exact RT
   ·rw[kN ⇑RT]at A;rw[List.getElem?_replicate]at A;split at A<;>cases A
  have B:T[a]?=Z s:=by
   unfold kf at A;rw[lY ⇑RT,dT]at A;cases c:T[a]? with
   |none=>rw[c]at A;cases A
   |some g=>rw[c]at A;cases A;rfl
  let⟨@I,x,E⟩:=u.get B;have l:RY[a]?=Z D:=by
   rw[<-Se.pre,List.getElem?_take_of_lt ⋯];exact t
  have y:RY.Nodup:=by rw[<-Se.pre];exact Se.aj.sublist (p8 _ _)
  refine⟨I,E,?_⟩;rcases Se.par D (e0 l) with n|n
  ·exact .inl ⟨n,EJ y l x n⟩
  ·let⟨@p,c⟩:=Dz (v:=h.heap.objs.size+1) n;refine .inr ⟨.inl n,p,c,?_⟩;have q:=f.cell D p c;rw[Ax y l x (by show So.names.lookup D≠_;rw[n];decide)]at q;exact q
 ·exact b.a0.fresh (lD<|f.above D p<|PySem.mem_of_lookup d)
 ·unfold kf;show _=Si.length;rw[d4,bt,List.length_replicate];lia
def GY{F:ag}{name:au}{i:Arguments}{o bW z Sr P bQ Tg:ab}{S0 Tb:Option ag}{Tr:Array (Option ab)}{S6:je}(lk:Q.lookup F=Z ⟨Tg,Tb,.func<|Ψ name S3 i Th So o bW z Sr S0 P bQ,Tr⟩)(x:Φa Q P S3=aa)(Se:lT Si RY So)(len:∀T j B RW,S6 T j B RW->T.length=RY.length)(A:∀(O:bf) (SS:List ee) (h:ah) (j:ax) (T:List ao) (B:cx) (RW:fh),dd n (O.deeper<|h5 S3 So h.heap.objs.size F P)->S6 T j B RW->
   ∃y,hu (j9 k R4 H Q aE R7 Si S3 So F P O SS h j RW) Th y/\y {aL:=λ_ S=>B .aX S,dP:=B} (kf Si T) j):
  fM R4 H Q aE R7 k (n+1) F (Ψ name S3 i Th So o bW z Sr S0 P bQ) RY S6:=by
 refine⟨len,λO SS h j args Sk T B RW d a C u p=>?_⟩;have E:=len _ _ _ _ p;have r:Q.In h.heap:=a.mod.qu.keeps λe m c=>(a.bs e m c).1;have G:h.heap.NoLimit:=a.mod.nolimit.keeps λe m c=>(a.bs e m c).1;have L:∀D∈RY.zip Sk,So.names.lookup D.1=Z .local\/(So.names.lookup D.1=Z .cell/\((vI (h.heap.objs.size+1) So.names []).lookup D.1).isSome=aa):=λ⟨v,s⟩ N=>by
  rcases Se.par v (ye N).1 with q|q
  ·exact .inl q
  ·exact .inr ⟨q,Gb _ _ _<|.inl q⟩
 refine codeAny_call_function d.depth (r _ _ lk) rfl Se.co Se.gen rfl (PySem.W.codeRec_of r x) (C _ _ _ _ ?_);refine wpAny_newFunctionEnv_cells Se.kind L λRZ R t f=>?_;subst R;refine⟨G.keeps f.toInCall.keep,codeAny_func ?_⟩;let⟨@y,bL,U⟩:=A O SS h j T B RW (d.deeper _) p;have l:aB (j9 k R4 H Q aE R7 Si S3 So F P O SS h j RW) [] (kf Si T) j t:=L5 Se d.hd a E u f;refine gT (bL [] t (kf Si T) j _ l U) (λaT RV R6=>?_) λc RV R6=>R6;have w:∀{b:aZ}{S:ax}{s:ao}{I:ab},aB (j9 k R4 H Q aE R7 Si S3 So F P O SS h j RW) [] b S RV->b2 s I->B s S->yl SS R4 H j h B I RV:=
  λ{b S s I} SY g q=>⟨s,S,SY.os,SY.bare,SY.base,SY.a0,g,q⟩;cases aT with
 |ret I=>
  let⟨s,b,@S,SY,g,q⟩:=R6;exact w SY g q
 |next=>
  let⟨b,@S,SY,q⟩:=R6;exact w (s:=ao.aX) (I:=ab.none) SY rfl q
 |brk=>
  let⟨M,@M,M,q⟩:=R6;exact False.elim q
 |cont=>
  let⟨M,@M,M,q⟩:=R6;exact False.elim q
section
variable{b:aJ}{f:au}{o Sd:Pos}{c:bj}{U:List bj}{y:ew}{id R8:String}{u:List ao->ax->cx->Prop}
def zi(u:List ao->ax->cx->Prop)(y:ew):bZ:=(λw j B=>y w j λT R5=>u T R5 B)
def Ge(a:e7 b (.builtin id) u)(e:ep b f)(g:b.aE f=V)(i:gm f=Z (.builtin id))(k:gS b (c::U) y)(m:f ≠ "__name__" := by decide)(n:(f==("__debug__" : au))=ay:=by decide)(p:bC (c::U) b.env=(ay,bK c b.env)::bC U b.env:=by rfl)(q:(ez Sd<|bC U b.env).any (·.1)=ay:=by rfl):bH b (.Call (.Name f o) (c::U) [] Sd) (zi u y):=by
 intro G h w j B l d;refine pz (ql l e g i ?_ m n);exact Fd (bO (k Sd G h w j _ l d) λSk r ⟨T,R5,s,t,v⟩=>a G r w R5 T Sk B s t v) p q
def I6(a:e7 b (.type R8) u)(e:ep b f)(g:b.aE f=V)(i:gm f=Z (.type R8))(k:gS b (c::U) y)(m:f ≠ "__name__" := by decide)(n:(f==("__debug__" : au))=ay:=by decide)(p:bC (c::U) b.env=(ay,bK c b.env)::bC U b.env:=by rfl)(q:(ez Sd<|bC U b.env).any (·.1)=ay:=by rfl):bH b (.Call (.Name f o) (c::U) [] Sd) (zi u y):=by
 intro G h w j B l d;refine pz (ql l e g i ?_ m n);exact yv (bO (k Sd G h w j _ l d) λSk r ⟨T,R5,s,t,v⟩=>a G r w R5 T Sk B s t v) p q
end
end L2
namespace dj
open PyProof.Rows
variable{RT P:Option Int}{k cU:ab}{bJ y:ag}{B:ab->ah->Prop}
theorem Lf(O:bf)(h:ah)(g:Int)(y:gJ)(p:Int)(I:gJ)(R3:bp)(H:a7)(RW:ab->ah->Prop)(B:ab->ah->Prop)(d:B (.bool<|decide (g<p)) h):
  wpAny (aM R3 H) O (nB .Lt (.int g y)<|.int p I) B RW h:=
 (Mc d:wpAny (aM R3 H) O (ej .Lt (.int g y)<|.int p I) B RW h)
section
open PySem.SeqAt
open PySem.AutoSeq1 (wpAny_loadPart')
open PySem.MeetsSeq PySem.MeetsSeq2 PySem.MeetsSeq3
end
section
variable{R3:bp}{H:a7}{O:bf}{RW:ab->ah->Prop}{h:ah}
def Jn{e:ag}{T Sq:List ab}(bL:m8 h.heap y T.toArray)(o:m8 h.heap e Sq.toArray)(f:T≠[])(t:Sq=[]->B (.ref y) h)(A:Sq≠[]->B (.ref h.heap.objs.size) {h with heap:=h.heap.push {cls:=.type "tuple",data:=.seq (T++Sq).toArray} })(p:T.length+Sq.length<=sizeLine):wpAny (aM R3 H) O (fH .Add (.ref y)<|.ref e) B RW h:=by
 let⟨@⟨cls,g,data,bJ⟩,a,i,⟨@v,j⟩⟩:=id bL;let⟨@⟨q,k,data2,l⟩,b,m,⟨@S8,n⟩⟩:=id o;simp only at i j m n;subst i j m n;have c:T.toArray++Sq.toArray=(T++Sq).toArray:=by simp
 by_cases d:Sq=[]
 ·exact wD ⟨_,a,rfl⟩ ⟨_,b,rfl⟩ w3 xi ym yk (vy _ _)
   (tuple_addW1 y e T.toArray Sq.toArray v S8 g k bJ l ⇑f (by simp[d])) ⟨a,b,t d⟩
 ·refine wD ⟨_,a,rfl⟩ ⟨_,b,rfl⟩ w3 xi ym yk (vy _ _)
   (tuple_addW2 y e T.toArray Sq.toArray v S8 g k bJ l ⇑f ⇑d (by rw[cO,cO];exact p)) ⟨a,b,?_⟩;rw[c];exact A d
def b5(v x:Nat):Option Int->Nat
 |none=>x
 |some s=>if s<0 then (s+(v:Int)).toNat else min s.toNat v
def My(v x:Nat)(b:x<=v)(m:Option Int):b5 v x m<=v:=by
 cases m with
 |none=>exact b
 |some s=>
  show (if s<0 then (s+(v:Int)).toNat else min s.toNat v)<=v;by_cases a:s<0
  ·rw[aD a];lia
  ·rw[aG a];exact Nat.min_le_right _ _
def zl(s:Int)(v x:Nat):(if s<0 then max (s+(v:Int)) 0 else min s (v:Int))=((b5 v x (Z s):Nat):Int):=by
 show (if s<0 then max (s+(v:Int)) 0 else min s (v:Int))=(((if s<0 then (s+(v:Int)).toNat else min s.toNat v):Nat):Int);by_cases a:s<0
 ·simp only[aD a];lia
 ·simp only[aG a];lia
def G7(P RT:Option Int)(v:Nat):bq.Slice.sliceAdjust P RT 1 (v:Int)=(((b5 v 0 P:Nat):Int),((b5 v v RT:Nat):Int)):=by
 have t:¬ ((1:Int)<0):=⋯
 unfold bq.Slice.sliceAdjust;simp only[t,fl];refine dK ?_ ?_
 ·cases P with
  |none=>rfl
  |some s=>exact zl s v 0
 ·cases RT with
  |none=>rfl
  |some s=>exact zl s v v
def Kz(a r:Nat):bq.Slice.slicePlaces (a:Int) (r:Int) 1=r-a:=by
 unfold bq.Slice.slicePlaces;have t:(1:Int)>0:=⋯
 simp only[t,ia,Int.ediv_one];split<;>lia
def Fm{s:ab}{m:Option Int}{B:Option Int->ah->Prop}(o:jQ s m)(d:B m h):wpAny (aM R3 H) O (bq.Slice.slicePartIndex s) B RW h:=by
 cases o with
 |none=>exact EO d
 |int a y=>exact slicePart_int d
def Dm{v:Nat}{B:Int×Int×Nat->ah->Prop}(R6:h.heap.IsSliceOf bJ cU k .none)(a5:jQ cU P)(c:jQ k RT)(d:B (((b5 v 0 P:Nat):Int),1,b5 v v RT-b5 v 0 P) h):wpAny (aM R3 H) O (bq.Slice.sliceApplied (.ref bJ)<|pure (v:Int)) B RW h:=by
 let⟨@M,a,e,b⟩:=id R6;unfold bq.Slice.sliceApplied bq.Slice.sliceFields;refine aw (aw<|yd a b (x:=cU) rfl<|aw<|yd a b (x:=k) rfl<|aw<|yd a b (x:=.none) rfl<|aR ?_);refine aw (EO ?_);show wpAny _ _ (if ((1:Int)==0)=aa then _ else _) _ _ h;rw[aG ∅];refine aw (Fm a5<|aw<|Fm c<|aw<|aR ?_);show wpAny _ _ (match bq.Slice.sliceAdjust P RT 1 (v:Int) with|(P,RT)=>pure (P,(1:Int),bq.Slice.slicePlaces P RT 1)) _ _ h;rw[G7 P RT v];show wpAny _ _ (pure (((b5 v 0 P:Nat):Int),(1:Int),bq.Slice.slicePlaces ((b5 v 0 P:Nat):Int) ((b5 v v RT:Nat):Int) 1)) _ _ h;rw[Kz];exact aR d
def KU(z:Array ab)(a n:Nat):((range n).filterMap λ(i:Nat)=>z[((a:Int)+(i:Int)*1).toNat]?).toArray=((z.toList.drop a).take n).toArray:=by
 have c:(λ(i:Nat)=>z[((a:Int)+(i:Int)*1).toNat]?)=λi=>z[a+i]?:=by
  funext i;have:((a:Int)+(i:Int)*1).toNat=a+i:=⋯
  rw[this]
 rw[c];have:=pick_run z a n;rw[List.filterMap_map]at this;have b:((λf=>z[f]?) ∘ λf=>a+f)=λi=>z[a+i]?:=rfl;rw[b]at this;rw[this]
def JE{Sm:Array ab}(bL:m8 h.heap y Sm)(R6:h.heap.IsSliceOf bJ cU k .none)(a5:jQ cU P)(b:jQ k RT)(c:¬ (b5 Sm.size 0 P=0/\b5 Sm.size Sm.size RT=Sm.size))(d:B (.ref h.heap.objs.size) {h with heap:=h.heap.push {cls:=.type "tuple",data:=.seq ((Sm.toList.drop<|b5 Sm.size 0 P).take<|b5 Sm.size Sm.size RT-b5 Sm.size 0 P).toArray} })(l:Sm.size<=sizeLine):wpAny (aM R3 H) O (mg (.ref y)<|.ref bJ) B RW h:=by
 have a:sizeOk (.seq ((Sm.toList.drop<|b5 Sm.size 0 P).take<|b5 Sm.size Sm.size RT-b5 Sm.size 0 P).toArray):=by
  show ((Sm.toList.drop<|b5 Sm.size 0 P).take<|b5 Sm.size Sm.size RT-b5 Sm.size 0 P).toArray.size<=sizeLine;rw[cO,gh,gv,c6];lia
 have m:b5 Sm.size Sm.size RT<=Sm.size:=My _ _ (bl _) RT;let⟨@M,e,f,n⟩:=id R6;have g:h.TypeIs (.ref bJ) "slice" := ⟨M,e,f⟩;unfold mg;try with_reducible refine fU ?_
 first|refine aw (aR ?_)|skip
 refine aw (Bo bL.typeIs ∅ ?_);refine aw (rm (name:=au.ofString "__getitem__") bL.typeIs pE
  (i0 pE bL.typeIs CC ?_<|Ed _ _));show wpAny _ _ (bq.Tuple.tupleItemsOf (.ref y) >>= _) _ _ h;refine aw (Eu bL ?_);refine aw (lp g ?_);rw[aD ∅];refine aw (Dm R6 a5 b ?_);have j:¬ ((((b5 Sm.size 0 P:Nat):Int)==0&&(1:Int)==1&&(b5 Sm.size Sm.size RT-b5 Sm.size 0 P)==Sm.size)=aa):=by
  intro q;rw[cC,cC]at q;have o:((b5 Sm.size 0 P:Nat):Int)=0:=eq_of_beq q.1.1;have p:b5 Sm.size Sm.size RT-b5 Sm.size 0 P=Sm.size:=eq_of_beq q.2;exact c ⟨⋯,⋯⟩
 show wpAny _ _ (if (((b5 Sm.size 0 P:Nat):Int)==0&&(1:Int)==1&&(b5 Sm.size Sm.size RT-b5 Sm.size 0 P)==Sm.size)=aa then _ else _) _ _ h;rw[aG j,KU];first
  | exact aw (m:=bq.Tuple.tupleExact _) (gp (aR ⟨_,rfl,aR d⟩) a)
  | exact aw (m:=bq.Tuple.tupleExact _) (gp (aw<|aR<|aR ⟨_,rfl,aR d⟩) a)
  | exact aw (aw (m:=bq.Tuple.tupleExact _)<|gp (aR<|aR ⟨_,rfl,aR d⟩) a)
  | exact aw (aw (m:=bq.Tuple.tupleExact _)<|gp (aR ⟨_,rfl,aR d⟩) a)
end
end dj
namespace L2
open Spec PyProof.Rows
variable{RU:aV}{B:ab->ah->Prop}{S j:ax}{R9:List (List X×ao)}{H:a7}{R4:bp}{m:Option ao}{Sw v:Nat}{M Sa:List ab}{o:ag}{h:ah}{w:aZ}{G:List (ag×a3)}{u:bB}{a:Int}{z:List (List X×ag×ab)}
abbrev l2:=aZ->ax->(Option Int->ax->Prop)->Prop
def Bd(b:aJ)(c:Option bj)(y:l2)(G:List (ag×a3)):Prop:=(
 ∀(h:ah) (w:aZ) (j:ax) (B:Option Int->ax->Prop),aB b G w j h->y w j B->
  wpAny (aM b.prog b.w) b.A (evalPart c b.env) (λI RV=>∃m S,aB b G w S RV/\jQ I m/\B m S) b.cH h)
def oK(b:aJ)(c:Option bj)(y:l2):Prop:=(∀G,Bd b c y G)
def Mh:l2:=(λ_ j B=>B V j)
def OO(y:bZ):l2:=(λw j B=>y w j λf R5=>∃a,f=.int a/\B (Z a) R5)
section
variable{b:aJ}{c:bj}{S9:bZ}{P RT:Option bj}{Tv i:l2}{Sd SU:Pos}
def QI:oK b V Mh:=by
 intro G h w j B l d;rw[A4];exact aR ⟨V,j,l,.none,d⟩
def Kk(d:bH b c S9):oK b (Z c) (OO S9):=by
 intro G h w j B l e;rw[evalPart_some];refine bO (d G h w j _ l e) λI n g=>?_;let⟨f,@R5,i,k,m⟩:=g;let⟨@a,rfl,q⟩:=m;let⟨@y,rfl⟩:=k;exact⟨Z a,R5,i,.int a y,q⟩
def q3(b:aJ)(u:ao->Option Int->Option Int->ax->cx->Prop):Prop:=(
 ∀(G:List (ag×a3)) (h:ah) (w:aZ) (j:ax) (f:ao) (s cU k:ab) (P RT:Option Int) (bJ:ag) (B:cx),aB b G w j h->b2 f s->h.heap.IsSliceOf bJ cU k .none->jQ cU P->jQ k RT->u f P RT j B->
  ∃R8 id,xj (.type R8) "__getitem__" = pure (Z<|.builtin id)/\h.TypeIs s R8/\wpAny (aM b.prog b.w) b.A (mg s<|.ref bJ) (e_ b G w B) b.cH h)
def PW(u:ao->Option Int->Option Int->ax->cx->Prop)(S9:bZ)(Tv i:l2):bZ:=(λw j B=>S9 w j λf R5=>Tv w R5 λJ Sf=>i w Sf λI a=>u f J I a B)
def Ma{u:ao->Option Int->Option Int->ax->cx->Prop}(n:q3 b u)(o:bH b c S9)(p:oK b P Tv)(r:oK b RT i):bH b (.Subscript c (.Slice P RT V SU) Sd) (PW u S9 Tv i):=by
 intro G h w j B l d;refine Subscript_ (bO (o G h w j _ l d) λs t g=>?_);let⟨f,@R5,v,x,y⟩:=g;refine wpAny_Slice (bO (p G t w R5 _ v y) λcU z ⟨J,Sf,C,a5,D⟩=>bO (r G z w Sf _ C D) λk a g=>?_);let⟨I,@m,E,F,L⟩:=g;rw[A4];refine aR ?_;have M:aB b G w m {a with heap:=a.heap.push {cls:=.type "slice",data:=.fields #[cU,k,.none]} }:=E.kept (Sw:=a.toks) λe aS q=>cg _ q;let⟨R8,@id,N,bL,Q⟩:=n G {a with heap:=a.heap.push {cls:=.type "slice",data:=.fields #[cU,k,.none]} } w m f s cU k J I a.heap.objs.size B M x (aV.IsSliceOf.new ..) a5 F L;show wpAny (aM b.prog b.w) b.A (zt c (.Slice P RT V SU) s<|.ref a.heap.objs.size) (e_ b G w B) b.cH {a with heap:=a.heap.push {cls:=.type "slice",data:=.fields #[cU,k,.none]} };exact xu (ops:=[.ref a.heap.objs.size,s]) bL N Q (by with_unfolding_all rfl)
def lO(z:List ao)(P RT:Option Int):List ao:=((z.drop<|dj.b5 z.length 0 P).take (dj.b5 z.length z.length RT-dj.b5 z.length 0 P))
def y7(z:List ao)(P RT:Option Int):(lO z P RT).length<=z.length:=by
 unfold lO;rw[gh,gv];lia
def Hr(Q:Φ):ao->Option Int->Option Int->ax->cx->Prop:=(λf P RT j B=>∃g z,f=.ref g/\c7 Q j g z/\
 ¬ (dj.b5 z.length 0 P=0/\dj.b5 z.length z.length RT=z.length)/\∀o,j o=V->B (.ref o) (upd j o<|.tup<|lO z P RT))
def Q5:q3 b (Hr b.K):=by
 intro G h w j f s cU k P RT bJ B l i R6 a5 n d;let⟨g,@z,rfl,o,p,q⟩:=d;cases i;let⟨@Sa,u,bL,c⟩:=l.tuple o;have a:Sa.toArray.size=z.length:=by rw[cO];exact u.length.symm
 refine⟨"tuple",_,pE.lookup,bL.typeIs,?_⟩;refine dj.JE bL R6 a5 n (by rw[a];exact p) ?_ (by rw[a];exact c);rw[a];refine⟨.ref h.heap.objs.size,_,l.laid (Sw:=h.toks) (m:=.tup (lO z P RT)) (λe aS q=>cg _ q) (bl _) ?_,rfl,q _<|l.a0.fresh<|bl _⟩;exact⟨dx (y7 z P RT) c,_,(u.drop<|dj.b5 z.length 0 P).take<|dj.b5 z.length z.length RT-dj.b5 z.length 0 P,l9.new _ _⟩
def N6(Q:Φ):bB:=(λf D j B=>∃g e z Sh,f=.ref g/\D=.ref e/\c7 Q j g z/\c7 Q j e Sh/\z≠[]/\z.length+Sh.length<=sizeLine/\
 (Sh=[]->B (.ref g) j)/\(Sh≠[]->∀o,j o=V->B (.ref o) (upd j o<|.tup<|z++Sh)))
def bN.ts{z:List ao}{Sk:List ab}(u:bN z Sk):Sk=[]↔z=[]:=by
 cases u with
 |nil=>simp
 |cons _ _=>simp
def HC:dO b (fH .Add) (N6 b.K):=by
 intro G h w j f D s I B l k n d;let⟨g,e,z,@Sh,rfl,rfl,o,p,r,i,t,u⟩:=d;cases k;cases n;let⟨@Sa,c,v,W⟩:=l.tuple o;let⟨@x,a,SU,W⟩:=l.tuple p;refine dj.Jn v SU (λC=>r<|c.ts.mp C) (λC=>⟨.ref g,j,l,rfl,t<|a.ts.mp C⟩) (λC=>?_) (by rw[<-c.length,<-a.length];exact i);refine⟨.ref h.heap.objs.size,_,l.laid (Sw:=h.toks) (m:=.tup (z++Sh)) (λe aS q=>cg _ q) (bl _) ?_,rfl,u (λH=>C<|a.ts.mpr H) _<|l.a0.fresh<|bl _⟩;exact⟨by rw[d4];exact i,_,c.append a,l9.new _ _⟩
end
def ji(v:Nat)(a:Int):Option Nat:=(if 0<=a then (if a<v then Z a.toNat else V) else if -(v:Int)<=a then Z (a+v).toNat else V)
def dQ{Sj:Type}(z:List Sj)(a:Int):Option Sj:=((ji z.length a).bind λr=>z[r]?)
def AH{r:Nat}(d:ji v a=Z r):wx a v=Z r/\r<v /\ -(v:Int)<=a/\a<v:=by
 unfold ji at d;by_cases b:0<=a
 ·rw[aD b]at d;by_cases t:a<v
  ·rw[aD t]at d;have c:a.toNat=r:=Option.some.inj d;exact⟨by rw[tv b t,c],⋯,⋯,t⟩
  ·rw[aG t]at d;cases d
 ·rw[aG b]at d;by_cases t : -(v:Int)<=a
  ·rw[aD t]at d;have c:(a+v).toNat=r:=Option.some.inj d;exact⟨by rw[yz ⋯ t,c],⋯,t,⋯⟩
  ·rw[aG t]at d;cases d
def C0{Sj:Type}{z:List Sj}{s:Sj}(d:dQ z a=Z s):∃r,wx a z.length=Z r/\z[r]?=Z s/\r<z.length /\ -(z.length:Int)<=a/\a<z.length:=by
 unfold dQ at d;cases c:ji z.length a with
 |none=>rw[c]at d;cases d
 |some r=>
  rw[c]at d;let@⟨t,A,b,e⟩:=AH c;exact⟨r,t,d,A,b,e⟩
def uo(e:bj):Prop:=(∀m a,subscripted e ay m a=operate [m,a] (mg m a))
def gY(b:aJ)(u:bB):Prop:=(
 ∀(Tj a:bj) (G:List (ag×a3)) (h:ah) (w:aZ) (j:ax) (f D:ao) (s I:ab) (B:cx),aB b G w j h->b2 f s->b2 D I->u f D j B->
  subscripted a ay s I=operate [s,I] (mg s I)->wpAny (aM b.prog b.w) b.A (zt Tj a s I) (e_ b G w B) b.cH h)
def Ep(b:aJ)(id:String)(u:ao->List ao->ax->cx->Prop):Prop:=(
 ∀(G:List (ag×a3)) (h:ah) (w:aZ) (j:ax) (f:ao) (z:List ao) (s:ab) (Sk:List ab) (B:cx),aB b G w j h->b2 f s->bN z Sk->u f z j B->
  wpAny (aM b.prog b.w) b.A (call (.builtin id) (s::Sk)) (e_ b G w B) b.cH h)
section
variable{b:aJ}{g e:bj}{SP S7:bZ}{Sd:Pos}
def gY.or{SW:bB}(d:gY b u)(RU:gY b SW):gY b (λf D j B=>u f D j B\/SW f D j B):=by
 intro Tj a G h w j f D s I B l c e q R6;rcases q with q|q
 ·exact d Tj a G h w j f D s I B l c e q R6
 ·exact RU Tj a G h w j f D s I B l c e q R6
def Qk(a:gY b u)(c:bH b g SP)(i:bH b e S7)(R6:uo e):bH b (.Subscript g e Sd) (te u SP S7):=by
 intro G h w j B l d;exact Subscript_ (wQ c i l d λs I k f D Sf m n o q=>a g e G k w Sf f D s I B m n o q<|R6 _ _)
def Mu(Q:Φ):bB:=(λf D j B=>∃o z a s,f=.ref o/\D=.int a/\dE Q j o z/\dQ z a=Z s/\B s j)
def QR(Q:Φ):bB:=(λf D j B=>∃o z a s,f=.ref o/\D=.int a/\c7 Q j o z/\dQ z a=Z s/\B s j)
def G8:gY b (Mu b.K):=by
 intro Tj J G h w j f D s I B l k m d R6;let⟨o,z,a,@C,rfl,rfl,n,p,q⟩:=d;cases k;let⟨@y,rfl⟩:=m;let⟨@Sa,u,a5,L⟩:=l.list n;let⟨@r,t,A,M,v,x⟩:=C0 p;let⟨@H,e,E⟩:=u.get A;have F:=u.length;have N:=pe;have g:e_ b G w B H h:=⟨C,j,l,E,q⟩;by_cases i:0<=a
 ·have c:a.toNat=r:=by
   rw[tv i x]at t;exact Option.some.inj t
  exact item_listR a5.isList i ⋯ (by rw[c];simpa using e) g R6
 ·have c:(a+(Sa.toArray.size:Int)).toNat=r:=by
   rw[yz ⋯ v]at t;rw[cO,<-F];exact Option.some.inj t
  exact CJ (x:=H) a5.isList.typeIs Ao.lookup
   (wpAny_getItem_list_neg (Q:=λu RV=>u=H/\e_ b G w B u RV) a5.isList ⋯ (by rw[cO]<;>lia) ⋯ (by rw[c];simpa using e) ⟨rfl,g⟩) R6
def F3:gY b (QR b.K):=by
 intro Tj v G h w j f D s I B l c e d R6;let⟨o,z,a,@C,rfl,rfl,g,i,q⟩:=d;cases c;let⟨@y,rfl⟩:=e;let⟨@Sa,u,a5,x⟩:=l.tuple g;let⟨@r,t,A,E,F,J⟩:=C0 i;let⟨@H,k,m⟩:=u.get A;have n:=u.length;have L:=pe;have p:e_ b G w B H h:=⟨C,j,l,m,q⟩;exact CJ (x:=H) a5.typeIs slot_tuple_getitem.lookup
  (getItem_tuple (j:=r) (Q:=λu RV=>u=H/\e_ b G w B u RV) a5 ⋯ ⋯ (by rw[cO,<-n];exact t) ⇑k ⟨rfl,p⟩) R6
def Ha(Sa:List ab)(v r:Nat)(I:ab):a3.mapSeq (·.setIfInBounds r I) {cls:=.type "list",data:=.seq Sa.toArray v}={cls:=.type "list",data:=.seq (Sa.set r I).toArray v}:=by
 simp[a3.mapSeq]
variable{z:List ao}
def aB.lst(l:aB b G w j h)(d:j o=Z (.lst z)):
  ∃(Sa:List ab) (v:Nat),bN z Sa/\h.heap.get? o=Z {cls:=.type "list",data:=.seq Sa.toArray v}/\z.length<=sizeLine:=by
 let@⟨C,⟨Sa,@v,u,c⟩⟩:=l.a0 o _ d;exact⟨Sa,v,u,c,C⟩
def aB.NP{Sh:List ao}{a:Nat}{F:a3->a3}(l:aB b G w j h)(d:j o=Z (.lst z))(i:h.heap.get? o=Z {cls:=.type "list",data:=.seq Sa.toArray v})(g:F {cls:=.type "list",data:=.seq Sa.toArray v}={cls:=.type "list",data:=.seq M.toArray a})(u:bN Sh M)(k:Sh.length<=sizeLine)(y:Nat):
  aB b G w (upd j o<|.lst Sh) {h with heap:=h.heap.update o F,toks:=y}:=by
 have c:(h.heap.update o F).get? o=Z {cls:=.type "list",data:=.seq M.toArray a}:=by
  rw[ml F i (by rw[g]<;>rfl),g]
 refine l.write (f:=o) (c:=o) (by rw[d];trivial) (.inl rfl) (λe I m q=>(hP _ _<|eH m).trans q) ⟨_,c⟩ ?_;exact⟨k,M,a,u,c⟩
def Kv:ao->ao->ao->ax->(ax->Prop)->Prop:=(λm a s j B=>∃o z n r,m=.ref o/\a=.int n/\j o=Z (.lst z)/\ji z.length n=Z r/\B (upd j o<|.lst<|z.set r s))
def I9:vu b Kv:=by
 intro G h w j m a s J L I B l i D E d;let⟨o,z,n,@r,rfl,rfl,g,F,q⟩:=d;cases i;let⟨@y,rfl⟩:=D;let⟨Sa,@v,u,c,H⟩:=l.lst g;let@⟨t,A,k,p⟩:=AH F;have e:=u.length;have M:=pe;have x:aB b G w (upd j o<|.lst<|z.set r s) {h with heap:=h.heap.update o (a3.mapSeq (·.setIfInBounds r I))}:=
  l.NP g c (Ha Sa v r I) (u.set E r) (by rw[uK];exact H) h.toks;by_cases C:0<=n
 ·have f:n.toNat=r:=by
   rw[tv C p]at t;exact Option.some.inj t
  exact PySem.W.ki_setAt c C ⋯ (by rw[cO,<-e];exact p) (by rw[f];exact⟨_,x,q⟩)
 ·have f:(n+(Sa.toArray.size:Int)).toNat=r:=by
   rw[yz ⋯ k]at t;rw[cO,<-e];exact Option.some.inj t
  exact PySem.W.ki_setBack c ⋯ (by rw[cO,<-e];exact k) ⋯ (by rw[f];exact⟨_,x,q⟩)
def M4(P RT:Option Int)(v:Nat):(mS P RT V v).1=((dj.b5 v 0 P:Nat):Int)/\(mS P RT V v).2.1=((dj.b5 v v RT:Nat):Int)/\(mS P RT V v).2.2=1:=by
 refine⟨?_,?_,rfl⟩
 ·cases P with
  |none=>simp[mS,dj.b5]
  |some a=>
   simp only[mS,dj.b5,CS,show (1:Int)>0 by decide,ia];by_cases d:a<0
   ·simp only[d,ia]<;>lia
   ·simp only[d,fl]<;>lia
 ·cases RT with
  |none=>simp[mS,dj.b5]
  |some a=>
   simp only[mS,dj.b5,CS,show (1:Int)>0 by decide,ia];by_cases d:a<0
   ·simp only[d,ia]<;>lia
   ·simp only[d,fl]<;>lia
def Q6(Sa:List ab)(P RT:Option Int):slicePick Sa.toArray P RT V=((Sa.drop<|dj.b5 Sa.length 0 P).take<|dj.b5 Sa.length Sa.length RT-dj.b5 Sa.length 0 P).toArray:=by
 let@⟨t,A,a⟩:=M4 P RT Sa.toArray.size;unfold slicePick;rw[t,A,a];simp only[sliceRange_one,pick_run,cO]<;>rfl
def Qd(Q:Φ):ao->Option Int->Option Int->ax->cx->Prop:=(λf P RT j B=>∃g z,f=.ref g/\dE Q j g z/\∀o,j o=V->B (.ref o) (upd j o<|.lst<|lO z P RT))
def Ck:q3 b (Qd b.K):=by
 intro G h w j f s cU k P RT bJ B l a R6 a5 c d;let⟨g,@z,rfl,i,q⟩:=d;cases a;let⟨@Sa,u,bL,n⟩:=l.list i;have o:=u.length;refine⟨"list",_,Ao.lookup,bL.isList.typeIs,?_⟩;refine wpAny_getItem_list_slice bL.isList R6 a5 c .none ↥0 ?_ (by rw[cO]<;>lia);rw[Q6,<-o];refine⟨.ref h.heap.objs.size,_,l.laid (Sw:=h.toks) (m:=.lst (lO z P RT)) (λe aS q=>cg _ q) (bl _) ?_,rfl,q _<|l.a0.fresh<|bl _⟩;exact⟨dx (y7 z P RT) n,_,0,(u.drop<|dj.b5 z.length 0 P).take<|dj.b5 z.length z.length RT-dj.b5 z.length 0 P,dh _ rfl⟩
def PG:e7 b (.builtin "len") (λz j B=>∃o Sh,z=[.ref o]/\(dE b.K j o Sh\/c7 b.K j o Sh)/\B (.int Sh.length) j):=by
 intro G h w j z Sk B l u d;let⟨o,@Sh,rfl,a,q⟩:=d;let⟨@I,rfl,e⟩:=i7 u;cases e;have g:=pe;rcases a with a|a
 ·let⟨@Sa,SW,a5,f⟩:=l.list a;have c:=SW.length;exact Calls.call_len_list a5.isList (by simp only[cO]<;>lia) ⟨.int Sh.length,j,l.tok _,⟨h.toks+1,by rw[cO,c]⟩,q⟩
 ·let⟨@Sa,SW,a5,f⟩:=l.tuple a;have c:=SW.length;exact len_tuple a5 (by simp only[cO]<;>lia) ⟨.int Sh.length,j,l.tok _,⟨h.toks+1,by rw[cO,c]⟩,q⟩
def OX:e7 b (.builtin "len") (λz j B=>∃C,z=[.str C]/\C.length<=sizeLine/\B (.int C.length) j):=by
 intro G h w j z Sk B l u d;let⟨@C,rfl,a,q⟩:=d;let⟨@I,rfl,⟨@y,rfl⟩⟩:=i7 u;have c:=pe;exact len_str ⋯ ⟨.int C.length,j,l.tok _,⟨_,rfl⟩,q⟩
def e7.or{F:ab}{u SW:List ao->ax->cx->Prop}(d:e7 b F u)(RU:e7 b F SW):e7 b F (λz j B=>u z j B\/SW z j B):=by
 intro G h w j z Sk B l O q;rcases q with q|q
 ·exact d G h w j z Sk B l O q
 ·exact RU G h w j z Sk B l O q
def LG:e7 b (.type "tuple") (λz j B=>∃o Sh,z=[.ref o]/\((dE b.K j o Sh/\∀J,j J=V->B (.ref J) (upd j J<|.tup Sh))\/(c7 b.K j o Sh/\B (.ref o) j))):=by
 intro G h w j z Sk B l u d;let⟨o,@Sh,rfl,d⟩:=d;let⟨@I,rfl,i⟩:=i7 u;cases i;rcases d with ⟨a,q⟩|⟨a,q⟩
 ·let⟨@Sa,SW,a5,f⟩:=l.list a;have n:=SW.length;refine call_tuple_list a5.isList (λRU cL=>?_) (by simp only[cO]<;>lia);have g:aB b G w j {h with heap:=RU}:=l.kept (Sw:=h.toks) cL;have k:aB b G w (upd j RU.objs.size<|.tup Sh) {h with heap:=RU.push {cls:=.type "tuple",data:=.seq Sa.toArray} }:=
   g.laid (Sw:=h.toks) (λe m c=>cg _ c) (bl _) (show d9 b.prog b.w _ _ _ (.tup Sh) from ⟨f,Sa,SW,l9.new _ _⟩);exact⟨.ref RU.objs.size,_,k,rfl,q _<|g.a0.fresh<|bl _⟩
 ·let⟨@Sa,SW,a5,f⟩:=l.tuple a;exact call_tuple_same a5 ⟨.ref o,j,l,rfl,q⟩
def o_(Q:Φ)(R8:String)(f:ao)(j:ax):Prop:=(match f with
 |.str _=>R8 = "str"
 |.int _=>R8 = "int"
 |.ref o=>(R8 = "list" /\ ∃z,dE Q j o z)\/(R8 = "tuple" /\ ∃m,Q.lookup o=Z m/\m.cls=.type "tuple" /\ m.dict=V)\/
   (R8 = "dict" /\ ((∃R9,j o=Z (.dN R9))\/∃R9,j o=Z (.aO R9)))\/(R8 = "set" /\ ∃Se v,j o=Z (.set Se v))
 |_=>False)
def Ou{R8:String}{f:ao}{s:ab}(l:aB b G w j h)(u:b2 f s)(ty:o_ b.K R8 f j):
  h.TypeIs s R8/\∀g,s=.ref g->∃aS,h.heap.get? g=Z aS/\aS.dict=V:=by
 cases f with
 |str C=>
  let⟨@y,rfl⟩:=u;cases (show R8 = "str" from ty);exact⟨wO h C y,λ_ c=>nomatch c⟩
 |int a=>
  let⟨@y,rfl⟩:=u;cases (show R8 = "int" from ty);exact⟨typeIs_int h a y,λ_ c=>nomatch c⟩
 |ref o=>
  cases u;rcases ty with ⟨rfl,z,k⟩|⟨rfl,m,d,n,e⟩|⟨rfl,d⟩|⟨rfl,Se,v,d⟩
  ·let⟨@Sa,W,a5,W⟩:=l.list k;refine⟨a5.isList.typeIs,λg c=>?_⟩;cases c;let⟨m,@v,c,p,e,W⟩:=a5;exact⟨m,c,e⟩
  ·refine⟨⟨m,l.hr o m d,n⟩,λg c=>?_⟩;cases c;exact⟨m,l.hr _ m d,e⟩
  ·have C:∃m,h.heap.get? o=Z m/\m.ExactDict:=by
    rcases d with ⟨R9,d⟩|⟨R9,d⟩
    ·let@⟨_,_,⟨@_,_,⟨m,_,@_,c,SQ,_⟩⟩⟩:=l.a0 o _ d;exact⟨m,c,SQ⟩
    ·let@⟨_,_,⟨@_,_,⟨m,_,@_,c,SQ,_⟩⟩⟩:=l.a0 o _ d;exact⟨m,c,SQ⟩
   let⟨@m,c,SQ⟩:=C;refine⟨⟨m,c,SQ.1⟩,λg i=>?_⟩;cases i;exact⟨m,c,SQ.2.1⟩
  ·let⟨m,W,W,@W,c,SQ,W⟩:=l.a0 o _ d;refine⟨⟨m,c,SQ.1⟩,λg i=>?_⟩;cases i;exact⟨m,c,SQ.2.1⟩
 |_=>exact False.elim ty
def Jp(Q:Φ)(R8:String)(u:ao->List ao->ax->cx->Prop)(k:bZ)(y:ew):bZ:=(λw j B=>k w j λf R5=>o_ Q R8 f R5/\y w R5 λz Sf=>u f z Sf B)
variable{m c:bj}{U:List bj}{k:bZ}{y:ew}{name:au}{Tn i:Pos}{R8 id:String}{u:ao->List ao->ax->cx->Prop}
def Ml(bG:PlainAttrs R8)(Ta:Slot R8 name id)(o:typeOf (.builtin id)=pure (.type "method_descriptor"))(p:Ep b id u)(q:bH b m k)(r:gS b (c::U) y)(v:kV m name b.env (bK m b.env)=bK m b.env:=by rfl)(x:((ez i<|bC (c::U) b.env).all (λf=>!f.1)&&(pT i<|q_ [] b.env).all (λf=>f.1.isSome)
   && decide ((c::U).length+([]:List qd).length+(if ([]:List qd).isEmpty then 0 else 1)<30))=aa:=by rfl)(z:(Tn.endLine==i.line)=aa:=by rfl)(R6:bC (c::U) b.env=(ay,bK c b.env)::bC U b.env:=by rfl)(C:(ez i<|bC U b.env).any (·.1)=ay:=by rfl):
  bH b (.Call (.Attribute m name Tn) (c::U) [] i) (Jp b.K R8 u k y):=by
 intro G h w j B l d;refine wpAny_Call_method_late v x z rfl (bO (q G h w j _ l d) λs D a=>?_);let⟨f,@R5,e,g,ty,E⟩:=a;let@⟨t,A⟩:=Ou e g ty;refine⟨R8,id,bG,Ta,o,t,A,?_⟩;have n:=r i G D w R5 _ e E;rw[R6]at n ⊢;refine Calls.callWith_builtin (by show (ay || (ez i<|bC U b.env).any (·.1))=ay;rw[C]<;>rfl) (Calls.evalArgs_plain ?_);refine bO n λSk F a=>?_;let⟨T,@Sf,H,I,J⟩:=a;exact p G F w Sf f T s Sk B H g I J
end
def xU(b:aJ)(id:String)(u:ao->List ao->ax->cx->Prop):Prop:=(
 ∀(G:List (ag×a3)) (h:ah) (w:aZ) (j:ax) (f:ao) (z:List ao) (s:ab) (Sk:List ab) (B:cx),aB b G w j h->b2 f s->bN z Sk->u f z j B->
  wpAny (aM b.prog b.w) b.A (call (.builtin id) (s::Sk)) (e_ b G w B) b.cH h)
theorem bN.one:∀{f:ao}{Sk:List ab},bN [f] Sk->∃I,Sk=[I]/\b2 f I
 |_,_,.cons u .nil=>⟨_,rfl,u⟩
theorem bN.eraseIdx:∀{z:List ao}{Sk:List ab} (a:Nat),bN z Sk->bN (z.eraseIdx a) (Sk.eraseIdx a)
 |_,_,_,.nil=>.nil
 |_,_,0,.cons _ y=>y
 |_,_,a+1,.cons u y=>.cons u (bN.eraseIdx a y)
theorem DB{Sj:Type}:∀(J:List Sj) (a:Nat),(J.eraseIdx a).length<=J.length
 |[],_=>bl _
 |_::_,0=>si _
 |_::u,a+1=>DA (DB u a)
section
variable{b:aJ}{G:List (ag×a3)}{w:aZ}{j:ax}{h:ah}{J e:ag}{z Sh SR:List ao}
def aB.xh{F:Array ab->Array ab}(l:aB b G w j h)(a:j J=Z (.lst z))(c:h.heap.get? J=Z {cls:=.type "list",data:=.seq Sa.toArray v})(d:F Sa.toArray=M.toArray)(e:bN Sh M)(g:Sh.length<=sizeLine):
  aB b G w (upd j J<|.lst Sh) {h with heap:=h.heap.update J (a3.mapSeq F),toks:=Sw}:=by
 have q:=BI c F;rw[d]at q;refine l.write (f:=J) (c:=J) (by rw[a];exact trivial) (.inl rfl) (λm I i k=>(hP h.heap (a3.mapSeq F)<|eH i).trans k) ⟨_,q⟩ ?_;exact⟨g,M,_,e,q⟩
def aB.Mz(l:aB b G w j h)(a:bN Sh Sa)(c:Sh.length<=sizeLine):
  aB b G w (upd j h.heap.objs.size<|.lst Sh) {h with heap:=h.heap.push {cls:=.type "list",data:=.seq Sa.toArray},toks:=Sw}:=
 l.laid (λ_ W q=>cg _ q) (bl _) ⟨c,Sa,0,a,dh _ rfl⟩
def aB.fresh(l:aB b G w j h):j h.heap.objs.size=V:=l.a0.fresh (bl _)
def aB.hl(l:aB b G w j h)(a:j J=Z (.lst z)):z.length<=sizeLine/\∃(Sa:List ab) (v:Nat),bN z Sa/\z.length=Sa.length/\h.heap.get? J=Z {cls:=.type "list",data:=.seq Sa.toArray v}:=by
 let@⟨C,⟨Sa,@v,u,c⟩⟩:=l.a0 J _ a;exact⟨C,Sa,v,u,u.length,c⟩
def Qg(d:v<=sizeLine):bq.List.listTooLong v=ay:=by
 unfold bq.List.listTooLong;exact eX ⋯
end
section
variable{b:aJ}
def NW:ao->List ao->ax->cx->Prop:=(λf T j B=>∃J z D,f=.ref J/\T=[D]/\j J=Z (.lst z)/\z.length<sizeLine/\B .aX (upd j J<|.lst<|z++[D]))
def QC:xU b "list.append" NW:=by
 intro G h w j f T s Sk B l e g d;let⟨J,z,@D,rfl,rfl,a,k,q⟩:=d;cases e;let⟨@I,rfl,i⟩:=g.one;let@⟨C,⟨Sa,@v,u,m,c⟩⟩:=l.hl a;refine qr zj ⟨_,c,rfl⟩ Av (Ag _ _) (B5 J Sa.toArray v I (by rw[cO];lia)) ⟨c,?_⟩;refine⟨.aX,_,l.xh (M:=Sa++[I]) a c ↥0 (u.append<|.cons i .nil) ?_,rfl,q⟩;rw[d4,mD];lia
def K9:ao->List ao->ax->cx->Prop:=(λf T j B=>∃J e z SR,f=.ref J/\T=[.ref e]/\j J=Z (.lst z)/\j e=Z (.lst SR)/\z.length+SR.length<=sizeLine/\B .aX (upd j J<|.lst<|z++SR))
def Rl:xU b "list.extend" K9:=by
 intro G h w j f T s Sk B l i k d;let⟨J,e,z,@SR,rfl,rfl,g,m,x,q⟩:=d;cases i;let⟨@I,rfl,n⟩:=k.one;cases n;let@⟨C,⟨Sa,@v,u,y,c⟩⟩:=l.hl g;let@⟨A,⟨a,@S8,o,D,p⟩⟩:=l.hl m;have r:Sa.toArray.size+a.toArray.size<=sizeLine:=by rw[cO,cO];lia
 have t:¬ (!Sa.toArray.isEmpty&&bq.List.listTooLong (Sa.toArray.size+a.toArray.size))=aa:=by
  rw[Qg r,Gu];exact c4
 refine qr F.slot_list_extend ⟨_,c,rfl⟩ F.entry_list_extend (F.args_list_extend_2 _ _)
  (AutoSeq1.list_extend_list_list_0 J Sa.toArray v e a.toArray S8 t (by rw[cO];lia) ⋯) ⟨c,p,?_⟩;refine⟨.aX,_,l.xh (M:=Sa++a) g c ↥0 (u.append o) ?_,rfl,q⟩;rw[d4];lia
def LZ:ao->List ao->ax->cx->Prop:=(λf T j B=>∃J z a n D,f=.ref J/\T=[.int a]/\j J=Z (.lst z) /\ -(2^63)<=a/\a<2^63/\wx a z.length=Z n/\z[n]?=Z D/\B D (upd j J<|.lst<|z.eraseIdx n))
def N7:xU b "list.pop" LZ:=by
 intro G h w j f T s Sk B l g i d;let⟨J,z,a,n,@D,rfl,rfl,e,t,A,k,m,q⟩:=d;cases g;let⟨@I,rfl,o⟩:=i.one;let⟨@y,rfl⟩:=o;let@⟨C,⟨Sa,@v,u,p,c⟩⟩:=l.hl e;let⟨@H,r,x⟩:=u.get m;refine qr F.slot_list_pop ⟨_,c,rfl⟩ F.entry_list_pop (F.args_list_pop_2 _ _)
  (MeetsSeq.list_pop_at J Sa.toArray v a y n H (fitsIndex_both t A) (by rw[cO,<-p];exact k) (by rw[<-eg];exact r) (by rw[cO];lia)) ⟨c,?_⟩;refine⟨D,_,l.xh (M:=Sa.eraseIdx n) e c ?_ (u.eraseIdx n) ?_,x,q⟩
 ·show Sa.toArray.eraseIdxIfInBounds n=(Sa.eraseIdx n).toArray;rw[zM]
 ·have:=DB z n;lia
def PS:bB:=(λf D j B=>∃J e z SR,f=.ref J/\D=.ref e/\j J=Z (.lst z)/\j e=Z (.lst SR)/\z.length+SR.length<=sizeLine/\∀o,j o=V->B (.ref o) (upd j o<|.lst<|z++SR))
def Lc:dO b (fH .Add) PS:=by
 intro G h w j f D s I B l g i d;let⟨J,e,z,@SR,rfl,rfl,k,m,r,q⟩:=d;cases g;cases i;let@⟨C,⟨Sa,@v,u,t,c⟩⟩:=l.hl k;let@⟨x,⟨a,@S8,n,y,o⟩⟩:=l.hl m;refine PySem.P.add_list c o ?_ (by rw[cO,cO];lia);have p:Sa.toArray++a.toArray=(Sa++a).toArray:=by simp
 rw[p];exact⟨.ref _,_,l.Mz (Sw:=h.toks) (u.append n) (by rw[d4];lia),rfl,q _ l.fresh⟩
end
section
variable{Sn:Type}[DecidableEq Sn]
def hc(R9:List (Sn×ao))(n:Sn):Option ao:=((R9.find? λa=>decide (a.1=n)).map (·.2))
def gG(R9:List (Sn×ao))(n:Sn)(s:ao):List (Sn×ao):=(
 if (R9.any λa=>decide (a.1=n))=aa then R9.map (λa=>if a.1=n then (a.1,s) else a) else R9++[(n,s)])
def u4{o:Sn×ao}{u:List (Sn×ao)}{n:Sn}(c:o.1=n):hc (o::u) n=Z o.2:=by simp[hc,iW,c]
def uS{o:Sn×ao}{u:List (Sn×ao)}{n:Sn}(c:¬ o.1=n):hc (o::u) n=hc u n:=by simp[hc,iW,c]
theorem A7(n:Sn):∀R9:List (Sn×ao),(R9.any λa=>decide (a.1=n))=(hc R9 n).isSome
 |[]=>rfl
 |o::u=>by
  rw[m5];by_cases c:o.1=n
  ·simp only[u4 c,er c,Fx,Option.isSome_some]
  ·rw[uS c,eX c,E0];exact A7 n u
def Ay(R9:List (Sn×ao))(n:Sn)(s:ao):(gG R9 n s).length<=R9.length+1:=by
 unfold gG;split
 ·rw[bt];lia
 ·rw[d4,dA,u0];lia
def gU.pX{I:Option ab}(u:gU m I):m.isSome=I.isSome:=by
 cases m with
 |none=>cases I with
  |none=>rfl
  |some _=>exact (show False from u).elim
 |some _=>cases I with
  |none=>exact (show False from u).elim
  |some _=>rfl
def fP.val{R9:List (Sn×ao)}{T:List (Sn×ab)}(u:fP R9 T)(n:Sn):gU (hc R9 n) (mU T n):=by
 unfold fP at u;induction u with
 |nil=>exact True.intro
 |@cons o q RY a d y f=>
  let@⟨t,A⟩:=d;by_cases c:o.1=n
  ·have b:q.1=n:=t.symm.trans c;have e:mU (q::a) n=Z q.2:=by simp[mU,iW,b]
   rw[u4 c,e];exact A
  ·have b:¬ q.1=n:=λC=>c (t.trans C);have e:mU (q::a) n=mU a n:=by simp[mU,iW,b]
   rw[uS c,e];exact f
def fP.any{R9:List (Sn×ao)}{T:List (Sn×ab)}(u:fP R9 T)(n:Sn):(R9.any λa=>decide (a.1=n))=T.any λa=>decide (a.1=n):=by
 unfold fP at u;induction u with
 |nil=>rfl
 |cons d y b=>rw[m5,m5,b,d.1]
def fP.yc{R9:List (Sn×ao)}{T:List (Sn×ab)}(u:fP R9 T)(n:Sn){D:ao}{I:ab}(b:b2 D I):
  fP (R9.map λa=>if a.1=n then (a.1,D) else a) (T.map λa=>if a.1=n then (a.1,I) else a):=by
 unfold fP at u ⊢;induction u with
 |nil=>exact .nil
 |@cons o q RY f d y e=>
  rw[bY,bY];refine .cons ?_ e;let@⟨t,A⟩:=d;by_cases c:o.1=n
  ·rw[aD c,aD<|t.symm.trans c];exact⟨t,b⟩
  ·rw[aG c,aG<|λC=>c<|t.trans C];exact⟨t,A⟩
def fP.put{R9:List (Sn×ao)}{T:List (Sn×ab)}(u:fP R9 T)(n:Sn){D:ao}{I:ab}(a:b2 D I):fP (gG R9 n D) (stored T n I):=by
 unfold gG stored;rw[u.any n];by_cases c:(T.any λb=>decide (b.1=n))=aa
 ·rw[aD c,aD c];exact u.yc n a
 ·rw[aG c,aG c];exact dC.snoc u ⟨rfl,a⟩
def fP.length{R9:List (Sn×ao)}{T:List (Sn×ab)}(u:fP R9 T):R9.length=T.length:=dC.length u
end
def r1{n:dX}{I:ab}(u:b2 (bW n) I):(mX R4 H).is n I=aa:=by
 cases n with
 |inl a=>let⟨@y,c⟩:=(show ∃y,I=ab.int a y from u);subst c;exact GN R4 H a y
 |inr f=>let⟨@y,c⟩:=(show ∃y,I=ab.str f y from u);subst c;exact HB R4 H f y
abbrev cY(j:ax):List (List X×ao)->List (List X×ag×ab)->Prop:=dC λo q=>o.1=q.1/\gC j o.1 q.2.1/\b2 o.2 q.2.2
def cY.val(u:cY j R9 z)(n:List X):gU (hc R9 n) ((i6 z n).map (·.2)):=by
 induction u with
 |nil=>exact True.intro
 |@cons o q RY a d y f=>
  let@⟨t,_,A⟩:=d;by_cases c:o.1=n
  ·have b:q.1=n:=t.symm.trans c;have e:i6 (q::a) n=Z q.2:=by simp[i6,iW,b]
   rw[u4 c,e];exact A
  ·have b:¬ q.1=n:=λC=>c (t.trans C);have e:i6 (q::a) n=i6 a n:=by simp[i6,iW,b]
   rw[uS c,e];exact f
def cY.yc(u:cY j R9 z)(n:List X){D:ao}{I:ab}(b:b2 D I):
  cY j (R9.map λa=>if a.1=n then (a.1,D) else a) (z.map<|putAt n I):=by
 induction u with
 |nil=>exact .nil
 |@cons o q RY g d y e=>
  rw[bY,bY];refine .cons ?_ e;let@⟨t,A,f⟩:=d;unfold putAt;by_cases c:o.1=n
  ·rw[aD c,aD<|t.symm.trans c];exact⟨t,A,b⟩
  ·rw[aG c,aG<|λC=>c<|t.trans C];exact⟨t,A,f⟩
def cY.put(u:cY j R9 z)(n:List X){e:ag}{D:ao}{I:ab}(b:gC j n e)(a:b2 D I):
  cY j (gG R9 n D) (storedH z n e I):=by
 have c:(R9.any λd=>decide (d.1=n))=(i6 z n).isSome:=by
  rw[A7,(u.val n).pX,ti]
 unfold gG storedH;rw[c];by_cases q:(i6 z n).isSome=aa
 ·rw[aD q,aD q];exact u.yc n a
 ·rw[aG q,aG q];exact dC.snoc u ⟨rfl,b,a⟩
def cY.keeps(u:cY j R9 z)(bL:∀e Sh,j e=Z (.tup Sh)->S e=Z (.tup Sh)):cY S R9 z:=
 dC.u9 u λ_ W C=>⟨C.1,C.2.1.mono bL,C.2.2⟩
section
variable{R4:bp}{H:a7}{j:ax}{d:aV}{g:ag}
def BZ{I:eZ}(ok:dI R4 H j d)(c:jF j g I):d9 R4 H j d g I:=c.ok ok
def nW{R9:List (dX×ao)}(ok:dI R4 H j d)(c:jF j g (.dN R9)):R9.length<=sizeLine/\(g==jA)=ay/\∃T,fP R9 T/\d.DictOf (mX R4 H) g T:=
 show d9 R4 H j d g (.dN R9) from BZ ok c
def O0{R9:List (dX×ao)}(ok:dI R4 H j d)(c:j g=Z (.dN R9)):R9.length<=sizeLine/\(g==jA)=ay/\∃T,fP R9 T/\d.DictOf (mX R4 H) g T:=nW ok (.inl c)
mutual
theorem cq.eO(ok:dI R4 H j d):∀{x:X}{s:ao}{I:ab},cq j x s->b2 s I->c0 d x I
 |.aX,_,_,c,u=>by cases (show _=ao.aX from c);exact u
 |.aN e,_,_,c,u=>by cases (show _=ao.aN e from c);exact u
 |.int a,_,_,c,u=>by cases (show _=ao.int a from c);exact u
 |.str f,_,_,c,u=>by cases (show _=ao.str f from c);exact u
 |.fn g,_,_,c,u=>by cases (show _=ao.ref g from c);exact u
 |.tup E,_,_,c,u=>by
  let⟨g,@z,rfl,t,A⟩:=c;cases u;let@⟨_,⟨@Sa,b,⟨@m,h,k,⟨@v,l⟩⟩⟩⟩:=(show d9 R4 H j d g (.tup z) from ok g _ t);exact⟨g,m,Sa.toArray,v,rfl,h,(Prod.mk.inj k).1,l,by simpa using bx.eO ok A b⟩
 |.aT E,_,_,c,u=>by
  let⟨g,z,@m,rfl,t,A⟩:=c;cases u;exact⟨g,rfl⟩
 |.fd i,_,_,c,u=>by
  let⟨g,m,@P,rfl,t,A⟩:=c;cases u;exact⟨g,rfl⟩
theorem bx.eO(ok:dI R4 H j d):∀{E:List X}{T:List ao}{Sk:List ab},bx j E T->bN T Sk->dg d E Sk
 |[],_,_,c,u=>by cases (show _=[] from c);cases u;rfl
 |x::E,_,_,c,u=>by
  let⟨s,@y,rfl,t,A⟩:=c;cases u with
  |cons a b=>exact⟨_,_,rfl,cq.eO ok t a,bx.eO ok A b⟩
end
def kB{R:List X}(ok:dI R4 H j d)(c:gC j R g):(dU R4 H).is d R g:=⟨c.1,c.2.eO ok rfl⟩
def pH{R4:bp}{H:a7}{O:bf}(d:O.units+20<bD):(dU R4 H).room O.in1:=show O.units+1+10<bD by lia
def rd(ok:dI R4 H j d)(c:jF j g (.aO R9)):R9.length<=sizeLine/\(g==jA)=ay/\
  ∃z,cY j R9 z/\d.DictOfH (dU R4 H) g z:=by
 let@⟨C,D,⟨@z,u,⟨m,U,@Ss,t,A,e,h,k⟩⟩⟩:=(show d9 R4 H j d g (.aO R9) from BZ ok c);refine⟨C,D,z,u,m,U,Ss,t,A,e,h,λf a=>?_,k⟩;have all:∀{J:List (List X×ao)}{i:List (List X×ag×ab)},cY j J i->∀f∈i,(dU R4 H).is d f.1 f.2.1:=by
  intro J i q;induction q with
  |nil=>intro f a;exact nomatch a
  |@cons o q RY n b y l=>
   intro f a;rcases cc.mp a with c|a
   ·subst c;exact kB ok (by rw[<-b.1];exact b.2.1)
   ·exact l f a
 exact all u f a
def zY(ok:dI R4 H j d)(c:j g=Z (.aO R9)):R9.length<=sizeLine/\(g==jA)=ay/\
  ∃z,cY j R9 z/\d.DictOfH (dU R4 H) g z:=rd ok (.inl c)
end
def gc(j:ax)(g:ag)(D:ao)(u:Option ao):Prop:=(
 (∃R9 n,jF j g (.dN R9)/\D=bW n/\u=hc R9 n)\/∃R9 n e,jF j g (.aO R9)/\D=.ref e/\gC j n e/\u=hc R9 n)
def mG(j:ax)(g:ag)(D s:ao)(S:ax):Prop:=(
 (∃R9 n,j g=Z (.dN R9)/\D=bW n/\R9.length<sizeLine/\S=upd j g (.dN<|gG R9 n s))\/
 ∃R9 n e,j g=Z (.aO R9)/\D=.ref e/\gC j n e/\R9.length<sizeLine/\S=upd j g (.aO<|gG R9 n s))
def gc.k{j:ax}{g:ag}{R9:List (dX×ao)}{n:dX}(c:j g=Z (.dN R9)):gc j g (bW n) (hc R9 n):=.inl ⟨R9,n,.inl c,rfl,rfl⟩
def gc.t{j:ax}{g e:ag}{R9:List (List X×ao)}{n:List X}(c:j g=Z (.aO R9))(a:gC j n e):gc j g (.ref e) (hc R9 n):=.inr ⟨R9,n,e,.inl c,rfl,a,rfl⟩
def mG.k{j:ax}{g:ag}{R9:List (dX×ao)}{n:dX}{s:ao}(c:j g=Z (.dN R9))(a:R9.length<sizeLine):mG j g (bW n) s (upd j g<|.dN<|gG R9 n s):=.inl ⟨R9,n,c,rfl,a,rfl⟩
def mG.t{j:ax}{g e:ag}{R9:List (List X×ao)}{n:List X}{s:ao}(c:j g=Z (.aO R9))(a:gC j n e)(b:R9.length<sizeLine):
  mG j g (.ref e) s (upd j g<|.aO<|gG R9 n s):=.inr ⟨R9,n,e,c,rfl,a,b,rfl⟩
section
variable{b:aJ}{G:List (ag×a3)}{w:aZ}{j:ax}{h:ah}{g:ag}{D s:ao}{I u:ab}{m:Option ao}{O:bf}{RW:ab->ah->Prop}
def aB.big(l:aB b G w j h):jA<h.heap.objs.size:=by
 have d:d1<h.heap.objs.size:=(l.mod.glob.keeps l.fb).lt;exact pC ∅ d
def Hw(t:O.units+20<bD)(l:aB b G w j h)(L:gc j g D (Z s))(r:b2 D I)(d:∀a RV,aB b G w j RV->b2 s a->B a RV):
  wpAny (aM b.prog b.w) O (mg (.ref g) I) B RW h:=by
 rcases L with ⟨R9,n,c,f,J⟩|⟨R9,n,e,c,f,u,J⟩
 ·subst f;let@⟨C,hd,⟨@T,i,k⟩⟩:=nW l.a0 c;let⟨@a,p,q⟩:=gU.some_of (s:=s) (m:=mU T n) (by rw[J];exact i.val n);exact wpAny_getItem_of (r1 r) k.mapOf p (d a _ (l.tok _) q)
 ·subst f;cases (show I=ab.ref e from r);let@⟨C,hd,⟨@z,i,k⟩⟩:=rd l.a0 c;let⟨@a,p,q⟩:=gU.some_of (s:=s) (m:=(i6 z n).map (·.2)) (by rw[J];exact i.val n);let⟨@o,v,x⟩:=cB.mp p;refine D8 (pH t) (kB l.a0 u) k v ?_;rw[x];exact d a _ (l.tok _) q
def wM(o:O.units+20<bD)(l:aB b G w j h)(L:gc j g D m)(k:b2 D I)(d:∀RV,aB b G w j RV->B (.bool m.isSome) RV):
  wpAny (aM b.prog b.w) O (ej .In I<|.ref g) B RW h:=by
 rcases L with ⟨R9,n,c,a,J⟩|⟨R9,n,e,c,a,p,J⟩
 ·subst a;let@⟨C,hd,⟨@T,f,i⟩⟩:=nW l.a0 c;refine wpAny_in_of (r1 k) hd i.mapOf ?_;rw[<-(f.val n).pX,<-J];exact d _ (l.tok _)
 ·subst a;cases (show I=ab.ref e from k);let@⟨C,hd,⟨@z,f,i⟩⟩:=rd l.a0 c;refine wpAny_in_heap (pH o) (kB l.a0 p) hd i ?_;have q:=(f.val n).pX;rw[ti]at q;rw[<-q,<-J];exact d _ (l.tok _)
def vw(o:O.units+20<bD)(l:aB b G w j h)(L:gc j g D m)(k:b2 D I)(d:∀RV,aB b G w j RV->B (.bool<|!m.isSome) RV):
  wpAny (aM b.prog b.w) O (ej .NotIn I<|.ref g) B RW h:=by
 rcases L with ⟨R9,n,c,a,J⟩|⟨R9,n,e,c,a,p,J⟩
 ·subst a;let@⟨C,hd,⟨@T,f,i⟩⟩:=nW l.a0 c;refine wpAny_notIn_of (r1 k) hd i.mapOf ?_;rw[<-(f.val n).pX,<-J];exact d _ (l.tok _)
 ·subst a;cases (show I=ab.ref e from k);let@⟨C,hd,⟨@z,f,i⟩⟩:=rd l.a0 c;refine wpAny_notIn_heap (pH o) (kB l.a0 p) hd i ?_;have q:=(f.val n).pX;rw[ti]at q;rw[<-q,<-J];exact d _ (l.tok _)
def wL{aS:eZ}(l:aB b G w j h)(a:rx (j g))(R6:aV.SameBut g h.heap RU)(d:∃q,RU.get? g=Z q)(new:d9 b.prog b.w (upd j g aS) RU g aS):
  aB b G w (upd j g aS) {h with heap:=RU,toks:=Sw}:=
 l.write (f:=g) (c:=g) a (.inl rfl) (λe q i C=>(R6.2 e i).trans C) d new
def K4{R9:List (dX×ao)}{T:List (dX×ab)}(C:R9.length<=sizeLine)(a:(g==jA)=ay)(b:fP R9 T)(c:RU.DictOf (mX R4 H) g T):
  d9 R4 H S RU g (.dN R9):=⟨C,a,T,b,c⟩
def Aq{B:Unit->ah->Prop}(M:O.units+20<bD)(l:aB b G w j h)(L:mG j g D s S)(x:b2 D I)(y:b2 s u)(d:∀RV,aB b G w S RV->B () RV):
  wpAny (aM b.prog b.w) O (ri (.ref g) I u) B RW h:=by
 rcases L with ⟨R9,n,c,k,J,m⟩|⟨R9,n,e,c,k,E,J,m⟩
 ·subst k m;let@⟨C,o,⟨@T,a,r⟩⟩:=O0 l.a0 c;have t:T.length<=sizeLine:=by rw[<-a.length];exact C
  have v:(gG R9 n s).length<=sizeLine:=by have:=Ay R9 n s;lia
  refine wpAny_setItem_pairs (hsz:=t) (r1 x) r λRU f R6=>d _ ?_;have P:∃q,RU.get? g=Z q:=let ⟨q,_,_,i,_⟩:=f;⟨q,i⟩
  exact wL l (by rw[c];exact True.intro) R6 P (K4 v o (a.put n y) f)
 ·subst k m;cases (show I=ab.ref e from x);let@⟨C,o,⟨@z,a,r⟩⟩:=zY l.a0 c;have t:z.length<=sizeLine:=by rw[<-dC.length a];exact C
  have v:(gG R9 n s).length<=sizeLine:=by have:=Ay R9 n s;lia
  refine wpAny_setItem_heap (hsz:=t) (pH M) (kB l.a0 E) r λRU f R6=>d _ ?_;let⟨q,U,@Ss,i,A,Q,R,W,al⟩:=f;refine wL l (by rw[c];exact True.intro) R6 ⟨q,i⟩ ⟨v,o,_,(a.put n E y).keeps λp Sh F=>?_,q,U,Ss,i,A,Q,R,al⟩;rw[b9 (Dx F c<|λC=>nomatch C)];exact F
end
section
variable{b:aJ}{G:List (ag×a3)}{w:aZ}{j:ax}{h:ah}{g:ag}{R9:List (dX×ao)}{n:dX}{I:ab}{O:bf}{RW:ab->ah->Prop}
def Kb(l:aB b G w j h)(c:jF j g (.dN R9))(d:∀y RV,aB b G w j RV->B (.int R9.length y) RV):wpAny (aM b.prog b.w) O (call (.builtin "len") [.ref g]) B RW h:=by
 let@⟨C,hd,⟨@T,a,e⟩⟩:=nW l.a0 c;refine call_len_dict hd e (by rw[<-a.length];rw[yb]at C;lia) ?_;rw[<-a.length];exact d _ _ (l.tok _)
end
def JD{b:aJ}{g:ag}{D:ao}(l:aB b G w j h)(L:gc j g D m):h.TypeIs (.ref g) "dict" := by
 rcases L with ⟨R9,n,c,_,_⟩|⟨R9,n,e,c,_,_,_⟩
 ·let@⟨_,_,⟨@T,_,a⟩⟩:=nW l.a0 c;exact a.typeIs
 ·let@⟨_,_,⟨@z,_,a⟩⟩:=rd l.a0 c;exact a.typeIs
def Aa(d:aV)(a:jA<d.objs.size):d9 R4 H j (d.push {cls:=.type "dict",data:=.dict #[]}) d.objs.size (.aO []):=
 ⟨gP _,lS.mpr<|eH<|cR a,[],.nil,_,#[],0,dh _ rfl,⟨rfl,rfl,rfl⟩,rfl,rfl,iy⟩
def Ld:bZ:=(λ_ j B=>∀o,j o=V->B (.ref o) (upd j o<|.aO []))
section
variable{b:aJ}{Sd:Pos}
def ON:bH b (.Dict [] [] Sd) Ld:=λG h w j B l d=>
 wpAny_Dict_empty ⟨.ref h.heap.objs.size,_,l.laid (g:=h.heap.objs.size) (m:=.aO []) (Sw:=h.toks) (λ_ W q=>cg _ q) (bl _)<|Aa h.heap l.big,rfl,d _<|l.a0.fresh<|bl _⟩
end
end L2
namespace Dq
open PySem.W PySem.Calls PyProof.Rows
variable{v:Nat}{J:OpenLaw}
def JR{R4:t4}{d:aV}:∀(P:List Int) (T:List ab),WellAll R4 d T (P.map rB.int)->q8 T P:=by
 intro P;induction P with
 |nil=>
  intro T H;rw[DS]at H;cases H;exact .nil
 |cons v P a=>
  intro T H;rw[bY]at H;cases H with
  |cons g e=>
   cases g;exact .cons _ _ (a _ e)
def Nf(h:J.most=Z v){R4:t4}{d:aV}{args:List rB}{c:List ab}(e:J.row.toRowW.claim.pre args=aa)(i:WellAll R4 d c args):
  ∃g T P,c=[ab.ref g]/\args=[rB.list (P.map rB.int)]/\d.get? g=Z {cls:=.type "list",data:=.seq T.toArray}/\q8 T P/\P.length<=v:=by
 have j:pR.hasAll [] args [.list .int]=aa:=(pre_splitW e).1;have f:J.pre.holds [] {args:=args}=aa:=(pre_splitW e).2;let⟨x,@u,rfl,t,A⟩:=hasAllW_cons j;obtain rfl:=hasAllW_nil A;let⟨@z,rfl,k⟩:=hasW_list t;let⟨@P,rfl⟩:=items_int k;have l:P.length<=v:=by
  unfold OpenLaw.pre at f;have a:(WTm.not<|.lt (.lit<|.int (v:Int))<|.len<|.arg 0).holds [] {args:=[.list (P.map .int)]}=aa:=by
   have a:=(holds_andW f).1;rw[h]at a;exact a
  have b:=condW_of a (w_not<|w_lt w_lit<|w_len_list<|w_arg rfl);rw[bt]at b;refine Nat.le_of_not_lt λq=>?_;have m:(v:Int)<((P.length:Nat):Int):=⋯
  first
   | (rw[er m]at b;exact absurd b ∅)
   | (simp at b;lia)
 cases i with
 |cons cw cp=>
  cases cp;cases cw with
  |list n o=>exact⟨_,_,P,rfl,rfl,n,JR P _ o,l⟩
def IU(J:OpenLaw)(args:List rB):J.row.toRowW.claim.post args (.bool aa) args=aa:=
 postW_of (r:=J.row.toRowW) (X:=(aa==aa))
  (show pR.has [] (.bool aa) .bool=aa by first|rfl|decide|simp[pR.has,pR.arms,pR.armsAll])
  (show (WTm.eq .res<|.lit<|.bool aa).value [] {args:=args,res:=Z (.bool aa),after:=args}=Z (.bool<|aa==aa) from w_eq_bool (w_res rfl) w_lit) rfl
def QN{q:bp}{e:List au}{f:(au->Option ab)->aV->Prop}{h:a7->aV->Prop}{x:DefRec}(j:J.most=Z v)(k:x.params.defaults=[])(call:∀(H:a7) (eI a:ah) (aE d:au->Option ab) (b:ag) (m:a3) (Sr c z:ab) (g:ag) (T:List ab) (P:List Int),
   Ground q e [] f H eI aE d a.heap->h H a.heap->
   a.heap.get? b=Z m->m.data=.func (docDef x.name x.params x.body x.scope Sr c z)->a.heap.CodeRec c x.name->aE x.name=Z (.ref b)->
   a.heap.get? g=Z {cls:=.type "list",data:=.seq T.toArray}->q8 T P->P.length<=v->a.gens=#[]->
   codeAny (aM J.prog H) m3 (.call (.ref b) ⟨[.ref g],[]⟩) (λu RV=>u=.ok (.ret<|.bool aa)/\OldK a.heap RV.heap/\RV.os=a.os/\k7 RV.gens) a):
  WalkO q e f h J.row.toRowW x [] (λF T=>PySem.call F T):=by
 intro H eI a aE d R2 l b m Sr c z n bW o p r i s t args N O w Q R y S;obtain rfl:n=.none:=Dflts.none i k;obtain rfl:bW=.none:=Dflts.noKw i;let⟨g,T,@P,rfl,rfl,B,C,D⟩:=Nf j w y;refine enter_call (pn (call H eI a aE d b m Sr c z g T P R2 l o (fd_plain p) r s B C D t) λu RV E=>?_);let@⟨rfl,A,G,I⟩:=E;exact⟨.inl ⟨.bool aa,.bool aa,[],rfl,λ_=>rfl,.bool aa,IU J _,λ_=>⟨List.Pairwise.nil,λ_ L=>(nomatch L)⟩⟩,A,G,I⟩
end Dq
namespace L2
open Spec PyProof.Rows
variable{RY:List au}{F e:ag}{S3 f:au}{S6:je}{fd:fY}{n:Nat}{I:eZ}{d:aV}{j:ax}{H:a7}{R4:bp}{m:a3}
theorem zP:∀{T:List ab}{P:List Int},q8 T P->bN (P.map ao.int) T
 |_,_,.nil=>.nil
 |_,_,.cons v y d=>.cons ⟨y,rfl⟩ (zP d)
def rv(j:ax):Prop:=(∀e,j e=V\/(∃m z,j e=Z (.cM m<|.lst z))\/∃z,j e=Z (.tup z))
def G2{z:List ao}(p:pV m=Z z):∃a y r I v,(m.cls,m.dict)=(.type "tuple",V)/\m.data=.seq [.int a y,.int r I].toArray v/\z=[.int a,.int r]:=by
 unfold pV at p;split at p
 ·rename_i Sa v t A b;unfold Dv at p;split at p
  ·rename_i a y r I c;cases p;exact⟨a,y,r,I,v,dK t A,b.trans (by rw[<-c,Array.toArray_toList]),rfl⟩
  ·cases p
 ·cases p
def Cn(c:d.get? e=Z m)(p:kp m=Z I):∃z,I=.tup z/\d9 R4 H j d e I:=by
 unfold kp at p;cases x:pV m with
 |none=>rw[x]at p;cases p
 |some z=>
  rw[x]at p;cases p;let⟨a,y,r,s,v,t,A,rfl⟩:=G2 x;exact⟨_,rfl,dx (show 2<=2 from bl 2) ∅,[.int a y,.int r s],.cons ⟨y,rfl⟩<|.cons ⟨s,rfl⟩ .nil,m,c,t,v,A⟩
def hL(d:aV)(j:ax):ax:=(λe=>match j e with
 |some I=>Z I
 |none=>match d.get? e with
  |some m=>kp m
  |none=>V)
def JH(v:j e=V)(c:d.get? e=Z m):hL d j e=kp m:=by
 unfold hL;rw[v];dsimp only;rw[c]
def JF(v:j e=Z I):hL d j e=Z I:=by
 unfold hL;rw[v]
def Fc(v:hL d j e=Z I):j e=Z I\/∃m,d.get? e=Z m/\kp m=Z I:=by
 unfold hL at v;cases q:j e with
 |some s=>rw[q]at v;cases v;exact .inl rfl
 |none=>
  rw[q]at v;dsimp only at v;cases c:d.get? e with
  |none=>rw[c]at v;cases v
  |some m=>rw[c]at v;exact .inr ⟨m,rfl,v⟩
def L4{Q:Φ}{aE y:au->Option ab}{k:i_}{B g:ag}{a:ah}{T:List ab}{P:List Int}(F:Q.In a.heap)(G:a.heap.Ns d1 aE)(l:a.heap.Ns uP y)(as:∀f:au,f ≠ "__name__" -> y f=gm f)(a1:a.heap.NoLimit)(a2:a.gens=#[])(r:a.heap.get? g=Z {cls:=.type "list",data:=.seq T.toArray})(RT:q8 T P)(J:P.length<=sizeLine)(bd:dd n m3)(N:∀R7:aV,Q.In R7->R7.Ns d1 aE->fM R4 H Q aE R7 k n B fd [f] S6)(be:∀(h:ah) (I:ab),l7 h fd ⟨[I],[]⟩ [(f,I)])(bi:∀j:ax,rv j->dE Q j g (P.map ao.int)->S6 [.ref g] j (λs K=>s=.aN aa) λ_ K K=>False)(bm:∀j c RV,k [] j a (λ_ K K=>False) c RV->False):
  codeAny (aM R4 H) m3 (.call (.ref B) ⟨[.ref g],[]⟩) (λu RV=>u=.ok (.ret<|.bool aa)/\OldK a.heap RV.heap/\RV.os=a.os/\k7 RV.gens) a:=by
 have L:=zP RT;have bn:=RT.length;have O:∀b:ax,rv b->dE Q (hL a.heap b) g (P.map ao.int)->(∀j e I,b e=Z I->d9 R4 H j a.heap e I)->(∀e,b e≠V->e=g)->(b g≠V->Q.lookup g=V)->
   codeAny (aM R4 H) m3 (.call (.ref B) ⟨[.ref g],[]⟩) (λu RV=>u=.ok (.ret<|.bool aa)/\OldK a.heap RV.heap/\RV.os=a.os/\k7 RV.gens) a:=by
  intro b bs bv ca R cd;have al:∀{e:ag}{m:a3},a.heap.get? e=Z m->b e=V->(kT a.heap b).get? e=Z m:=λc v=>ML c v;have a0:dI R4 H (hL a.heap b) a.heap:=λe I q=>by
   rcases Fc q with q|⟨m,c,p⟩
   ·exact ca _ e I q
   ·exact (Cn c p).choose_spec.2
  have am:rv (hL a.heap b):=λe=>by
   cases q:hL a.heap b e with
   |none=>exact .inl rfl
   |some I=>
    rcases Fc q with q|⟨m,c,p⟩
    ·rcases bs e with C|C
     ·rw[C]at q;cases q
     ·rw[<-q];exact .inr C
    ·let⟨z,rfl,K⟩:=Cn (R4:=R4) (H:=H) (j:=b) c p;exact .inr (.inr ⟨z,rfl⟩)
  have noA:∀{e:ag}{m:a3}{U:Array x2}{Ss:Nat},a.heap.get? e=Z m->m.data=.dict U Ss->b e=V:=λ{e m U Ss} c x=>by
   cases q:b e with
   |none=>rfl
   |some I=>
    have D:e=g:=R e (by rw[q];simp);subst D;rw[r]at c;cases c;have ce:Data.seq T.toArray _=Data.dict U Ss:=x;cases ce
  have w:∀{e:ag}{i:au->Option ab},a.heap.Ns e i->(kT a.heap b).Ns e i:=λ{e i} ⟨m,U,Ss,c,x,u⟩=>⟨m,U,Ss,al c<|noA c x,x,u⟩;have an:Q.In (kT a.heap b):=λe m c=>al (F e m c) (by
   cases q:b e with
   |none=>rfl
   |some I=>
    have D:e=g:=R e (by rw[q];simp);subst D;rw[cd (by rw[q];simp)]at c;cases c)
  have ch:Mod Q aE (kT a.heap b):=⟨an,w G,⟨y,w l,as⟩,let ⟨ci,t,A⟩:=a1;⟨ci,w t,A⟩⟩;have cl:ny R4 H Q aE (kT a.heap b) m3 [] a (hL a.heap b):=⟨rfl,ch,λe m c=>⟨(xP c).1,JH (xP c).2 (xP c).1⟩,BW<|NB _ _,trivial,λe l=>absurd (show e∈([]:List ag) from l) ↥0,a0,.of_eq a2⟩;refine pn ((N _ an<|w G).run m3 [] a (hL a.heap b) ⟨[.ref g],[]⟩ [.ref g] [.ref g] _ _ bd cl (be a<|.ref g) (.cons rfl .nil)<|bi (hL a.heap b) am bv) λu RV d=>?_;cases u with
  |error c=>exact (bm (hL a.heap b) c RV d).elim
  |ok aT=>
   cases aT with
   |next=>exact False.elim d
   |brk=>exact False.elim d
   |cont=>exact False.elim d
   |ret I=>
    let⟨s,S,M,co,un,cr,SW,q⟩:=d;have cs:s=.aN aa:=q;subst cs;obtain rfl:I=ab.bool aa:=SW;refine⟨rfl,OldK.of_keep λe m c=>?_,M,co⟩;rcases am e with q|⟨aS,z,C⟩|⟨z,C⟩
    ·exact un.keep e m c q (by intro C;exact absurd (show e∈([]:List ag) from C) ↥0) ↥0
    ·have db:=un.h_ e aS _ C;let⟨ap,K⟩:=a0 e _ C;let⟨ds,K⟩:=cr e _ db;rw[c]at ap;cases ap;exact ds
    ·exact un.iR e m z c C ↥0
 cases E:Q.lookup g with
 |some m=>
  have c:=F g m E;rw[r]at c;cases c;refine O (λ_=>V) (λ_=>.inl rfl) (.inr ⟨_,T.toArray,_,E,rfl,rfl,rfl,by rw[cO,bn];exact J,by simpa using L⟩) (λj e I C=>by have o:(V:Option eZ)=Z I:=C;cases o) (λe C=>absurd rfl C) λC=>absurd rfl C
 |none=>
  refine O (λe=>if e=g then Z (.cM {cls:=.type "list",data:=.seq T.toArray} (.lst<|P.map ao.int)) else V) (λe=>?_) (.inl<|.inr ⟨{cls:=.type "list",data:=.seq T.toArray},JF<|aD rfl⟩) (λj e I C=>?_) (λe C=>?_) λ_=>E
  ·by_cases l:e=g
   ·exact .inr (.inl ⟨_,_,aD l⟩)
   ·exact .inl (aG l)
  ·by_cases l:e=g
   ·have o:=(aD l).symm.trans C;cases o;subst l;exact⟨r,by rw[bt];exact J,T,_,L,r⟩
   ·have o:=(aG l).symm.trans C;cases o
  ·by_cases l:e=g
   ·exact l
   ·exact absurd (aG l) C
def HU{J:PySem.W.OpenLaw}{v:Nat}{q:bp}{p:List au}{r:(au->Option ab)->aV->Prop}{i:a7->aV->Prop}{x:DefRec}{Q:t4->Φ}{k:a7->i_}{S6:a7->je}(t:J.most=Z v)(u:v<=sizeLine)(w:x.params.defaults=[])(y:dd n m3)(A:∀(H:a7) (d:aV),i H d->(Q H.params).In d)(N:∀(H:a7) (aE:au->Option ab) (a:ag) (d:aV),(Q H.params).In d->d.Ns d1 aE->aE x.name=Z (.ref a)->
   ∃fd:fY,(∀(h:ah) (I:ab),l7 h fd ⟨[I],[]⟩ [(f,I)])/\
    ∀R7:aV,(Q H.params).In R7->R7.Ns d1 aE->fM J.prog H (Q H.params) aE R7 (k H) n a fd [f] (S6 H))(B:∀(H:a7) (j:ax) (g:ag) (P:List Int),P.length<=v->rv j->dE (Q H.params) j g (P.map ao.int)->S6 H [.ref g] j (λs L=>s=.aN aa) λ_ L L=>False)(C:∀(H:a7) (j:ax) (h:ah) (c:ab) (RV:ah),k H [] j h (λ_ L L=>False) c RV->False):
  PySem.W.WalkO q p r i J.row.toRowW x [] (λF T=>PySem.call F T):=by
 refine Dq.QN t w λH eI D aE an a m Sr ap z g T P R2 E as a1 a2 G M O l R=>?_;have o:=A H _ E;let⟨@fd,S,U⟩:=N H aE a _ o R2.T.g G;exact L4 o R2.T.g R2.T.b R2.T.builtins R2.T.nolimit R M O (dx l u) y U S (λj al am=>B H j g P l al am) λj c RV=>C H j D c RV
def gi(h:bI):Arguments:=(match h with
 |.FunctionDef _ g _ _ _ _ _ _ _ _=>g
 |_=>{posonlyargs:=[],args:=[],vararg:=V,kwonlyargs:=[],kw_defaults:=[],kwarg:=V,defaults:=[]})
def e5(h:bI):List bI:=(match h with
 |.FunctionDef _ _ e _ _ _ _ _ _ _=>e
 |_=>[])
def dn(h:bI):gV:=(match h with
 |.FunctionDef _ _ _ _ _ _ y _ _ _=>y
 |_=>{kind:=.function,names:=[],isGenerator:=ay,isCoroutine:=ay})
abbrev gk:i_:=λ_ _ _ _ _ _=>False
abbrev HA:fh:=λ_ _ _=>False
def tq{b:aJ}:nt gk b HA:=λ_ W W W W W W d=>d.elim
structure ft(Q:Φ)(f S3:au)(Y:bI)(F:ag)(fd:fY):Prop where
 ex:∃(Tg:ab) (Tb:Option ag) (bW z Sr:ab) (S0:Option ag) (P bQ:ab) (Tr:Array (Option ab)),
  fd=Ψ f S3 (gi Y) (e5 Y) (dn Y) .none bW z Sr S0 P bQ/\Q.lookup F=Z ⟨Tg,Tb,.func fd,Tr⟩/\Φa Q P S3=aa
 cL:Δ Q (.ref F)=aa
section
variable{R4:bp}{H:a7}{Q:Φ}{aE:au->Option ab}{R7:aV}
def ft.ok{Y:bI}{Si:List au}(N:ft Q f S3 Y F fd)(Se:lT Si RY (dn Y))(len:∀T j B RW,S6 T j B RW->T.length=RY.length)(a:∀(P:ab) (O:bf) (SS:List ee) (h:ah) (j:ax) (T:List ao) (B:cx) (RW:fh),dd n (O.deeper<|h5 S3 (dn Y) h.heap.objs.size F P)->S6 T j B RW->
   ∃y,hu (j9 gk R4 H Q aE R7 Si S3 (dn Y) F P O SS h j RW).l8 (e5 Y) y/\y {aL:=λ_ S=>B .aX S,dP:=B} (kf Si T) j):fM R4 H Q aE R7 gk (n+1) F fd RY S6:=by
 let⟨Tg,Tb,bW,z,Sr,S0,P,bQ,@Tr,rfl,lk,b⟩:=N.ex;refine GY lk b Se len λO SS h j T B RW c e=>?_;let⟨@y,d,q⟩:=a P O SS h j T B RW c e;exact⟨y,d.l8,q⟩
def ft.binds{Y:bI}(N:ft Q f S3 Y F fd)(d:∀(bW z Sr:ab) (S0:Option ag) (P bQ:ab) (Sk:List ab),Sk.length=RY.length->jD (Ψ f S3 (gi Y) (e5 Y) (dn Y) .none bW z Sr S0 P bQ) ⟨Sk,[]⟩=pure (RY.zip Sk)):fG Q fd RY []:=by
 let⟨Tg,Tb,bW,z,Sr,S0,P,bQ,@Tr,rfl,lk,a⟩:=N.ex;exact .all (d bW z Sr S0 P bQ)
def GD{Y:bI}{Tg:ab}{Tb S0:Option ag}{Tr:Array (Option ab)}{bW z Sr P bQ:ab}(J:Q.lookup F=Z ⟨Tg,Tb,.func<|Ψ f S3 (gi Y) (e5 Y) (dn Y) .none bW z Sr S0 P bQ,Tr⟩)(p:Φa Q P S3=aa)(n:Δ Q (.ref F)=aa):ft Q f S3 Y F (Ψ f S3 (gi Y) (e5 Y) (dn Y) .none bW z Sr S0 P bQ):=⟨⟨Tg,Tb,bW,z,Sr,S0,P,bQ,Tr,rfl,J,p⟩,n⟩
end
section
variable{b:aJ}
def cn(a:Nat){f:au}{Sd:Pos}(c:b.N[a]?=Z f:=by rfl)(d:tQ b.env.scope f:=by first|exact Or.inl rfl|exact Or.inr (Or.inl rfl)|exact Or.inr (Or.inr rfl))(e:(f==("__debug__" : au))=ay:=by decide)(g:(f==("__classdict__" : au))=ay:=by decide):bH b (.Name f Sd) (hF a):=CX c d e g
end
def cI(j S:ax):Prop:=(∀e m,j e=Z m->S e=Z m)
def cI.refl(j:ax):cI j j:=λ_ W d=>d
end L2
namespace L2
section
variable{b:aJ}
def P4:e7 b (.builtin "len") (λz j B=>∃g R9,z=[ao.ref g]/\j g=Z (.dN R9)/\B (.int R9.length) j):=by
 intro G h w j z Sk B l u d;let⟨g,@R9,rfl,a,q⟩:=d;let⟨@I,rfl,c⟩:=i7 u;cases c;exact Kb l (.inl a) λy RV e=>⟨.int R9.length,j,e,⟨y,rfl⟩,q⟩
end
end L2
namespace L2
open Spec PyProof.Rows
variable{B:Option ab->ah->Prop}{a Ss Tu:Nat}{R0 x ae:ag}{d t:aV}{R:List ab}{E:jh}{Sz S4 Tt:bj}{Sb:List (au×ag)}{bU:List ag}{j:ax}{w:aZ}{G:List (ag×a3)}{SF:List Nat}{own:List au}{RZ:ee}{Sd:Pos}{So:gV}{To:List bj}{h:ah}{O:bf}
def NA{R3:bp}{H:a7}{R1:mA->ah->Prop}{b:bj}{R0 e:ab}(l:Nat->ah->Prop)(o:∀v h,l v h->wpAny (aM R3 H) O (fz R0) (λu a=>match u with
   |none=>R1 (.ok .next) a
   |some s=>wpAny (aM R3 H) O (uD b R0 s) (λ_ a=>wpAny (aM R3 H) O (jC b RZ s) (λ_ j=>
     wpAny (aM R3 H) O (forIn To aa λp u=>if u=aa then do let ok <-tS p RZ (bK p RZ);pure (ForInStep.yield ok) else pure (ForInStep.yield u)) (λok g=>
      if ok=aa then wpAny (aM R3 H) O (bK Tt RZ) (λf k=>
       wpAny (aM R3 H) O (call (.builtin "list.append") [e,f]) (λ_ m=>∃i,i<v/\l i m) (λ_ W=>False) k) (λ_ W=>False) g
      else ∃i,i<v/\l i g) (λ_ W=>False) j) (λ_ W=>False) a) (λ_ W=>False) a) (λ_ W=>False) h)(v:Nat)(d:l v h):
  codeAny (aM R3 H) O (.compLoop (.ListComp Tt [⟨b,S4,To,0⟩] So Sd) 0 R0 e RZ) R1 h:=by
 refine codeAny_loop rfl l (λv h q=>?_) v d;show wpAny _ O ((compTurn (.ListComp Tt [⟨b,S4,To,0⟩] So Sd) 0 R0 e RZ).onRaise (λf=>do noteFrame f RZ;theTreesLotGoes f)) _ _ h;refine wpAny_noted ?_;rw[compTurn_list];refine aw (vD<|aw<|gT (o v h q) (λu a c=>?_) λ_ W RU=>RU.elim);cases u with
 |none=>exact aR c
 |some s=>
  refine aw (gT c (λ_ a c=>?_) λ_ W RU=>RU.elim);refine aw (gT c (λ_ j r=>aw<|gT r (λok g n=>?_) λ_ W RU=>RU.elim) λ_ W RU=>RU.elim);cases ok with
  |false=>exact aR ⟨rfl,n⟩
  |true=>
   exact aw (aw<|gT n (λf k t=>aw<|gT t (λ_ m w=>aR<|aR ⟨rfl,w⟩) λ_ W RU=>RU.elim) λ_ W RU=>RU.elim)
def kd(RZ:ee)(J:List (au×cP)):List (au×ag):=(J.foldl (λSb D=>if D.2==.free then (D.1,(RZ.cells.lookup D.1).getD 0)::Sb else Sb) [])
theorem y3{RZ:ee}:∀(J:List (au×cP)) (Sb:List (au×ag)),(∀D∈J,D.2=.free->∃p,RZ.cells.lookup D.1=Z p)->
  (forIn J Sb λ(D:au×cP) Sb=>if D.2==.free then (do let p <-uu RZ D.1;pure (ForInStep.yield ((D.1,p)::Sb))) else pure (ForInStep.yield Sb):c8 _)=
   pure (J.foldl (λSb D=>if D.2==.free then (D.1,(RZ.cells.lookup D.1).getD 0)::Sb else Sb) Sb)
 |[],Sb,_=>rfl
 |D::u,Sb,d=>by
  rw[zR,lh];by_cases a:D.2=.free
  ·let⟨@p,e⟩:=d D lP a;have c:(D.2==cP.free)=aa:=by simp[a]
   rw[aD c,aD c];have f:uu RZ D.1=pure p:=by unfold uu;rw[e]
   rw[f,e];show (forIn u ((D.1,p)::Sb) _:c8 _)=_;exact y3 u _ λC b=>d C (jc _ b)
  ·have c:¬ (D.2==cP.free)=aa:=by simp[a]
   rw[aG c,aG c];show (forIn u Sb _:c8 _)=_;exact y3 u _ λC b=>d C (jc _ b)
def O2(d:∀D∈So.names,D.2=.free->∃p,RZ.cells.lookup D.1=Z p):closureFor So RZ=pure (kd RZ So.names):=by
 have:=y3 (RZ:=RZ) So.names [] d;unfold closureFor;dsimp only;have c:(forIn So.names ([]:List (au×ag))<|λ(f:au×cP) (u:List (au×ag))=>(if f.2==.free then (do let p <-uu RZ f.1;pure (ForInStep.yield ((f.1,p)::u))) else pure (ForInStep.yield u):c8 (ForInStep<|List<|au×ag)))=pure (kd RZ So.names):=this;rw[c];rfl
theorem FI{RZ:ee}:∀(J:List (au×cP)) (Sb:List (au×ag)) (f:au) (p:ag),
  (J.foldl (λSb D=>if D.2==.free then (D.1,(RZ.cells.lookup D.1).getD 0)::Sb else Sb) Sb).lookup f=Z p->
  (p=(RZ.cells.lookup f).getD 0/\(f,cP.free)∈J)\/Sb.lookup f=Z p
 |[],Sb,f,p,d=>.inr d
 |D::u,Sb,f,p,d=>by
  rw[lh]at d;rcases FI u _ f p d with ⟨c,i⟩|d
  ·exact .inl ⟨c,jc _ i⟩
  ·by_cases a:D.2=.free
   ·rw[aD (by simp[a])]at d;rw[gf]at d;by_cases b:f=D.1
    ·subst b;rw[gX]at d;refine .inl ⟨(Option.some.inj d).symm,?_⟩;rw[<-a];exact lP
    ·have:(f==D.1)=ay:=by simpa using b
     rw[this]at d;exact .inr d
   ·rw[aG (by simp[a])]at d;exact .inr d
theorem vC{RZ:ee}:∀(J:List (au×cP)) (Sb:List (au×ag)) (f:au),(f,cP.free)∈J\/(∃p,Sb.lookup f=Z p)->
  ∃p,(J.foldl (λSb D=>if D.2==.free then (D.1,(RZ.cells.lookup D.1).getD 0)::Sb else Sb) Sb).lookup f=Z p
 |[],Sb,f,d=>by
  rcases d with d|d
  ·cases d
  ·exact d
 |D::u,Sb,f,d=>by
  rw[lh];apply vC u _ f;rcases d with d|⟨p,d⟩
  ·rcases cc.mp d with c|d
   ·right;subst c;rw[aD (by rfl),gf,gX];exact⟨_,rfl⟩
   ·exact .inl d
  ·right;by_cases a:(D.2==cP.free)=aa
   ·rw[aD a,gf];cases f==D.1
    ·exact⟨p,d⟩
    ·exact⟨_,rfl⟩
   ·rw[aG a];exact⟨p,d⟩
structure lW where
 ae:ag
 s:ah
 H:ax
 bU:List ag
 cs:List (au×ag)
variable{S9:lW->bZ}{T:lW->ei}{L:lW->gu}
def aJ.hh(b:aJ)(c:List au)(So:gV)(a:lW): aJ :=(
  {prog:=b.prog,w:=b.w,K:=b.K,aE:=b.aE,base:=b.base,A:=b.A,N:=c,eI:=a.s,lG:=a.H,env:=sR So (a.cs ++ kd b.env So.names) a.ae b.env,outer:=b.stack,stack:=b.stack,
    ex:=a.bU,fn:=λf => So.names.lookup f==Z .cell,calm:=b.calm,ki:=[],cH:=λ_ W => False})
structure sg(Tu:Nat)(J:List (au×cP))(Sb:List (au×ag))(d:aV):Prop where
 iE:∀f p,Sb.lookup f=Z p->Tu<=p/\d.IsCell p V/\(f,cP.cell)∈J
 inj:∀f D p,Sb.lookup f=Z p->Sb.lookup D=Z p->f=D
def QX{aA:fX}{RW:ab->ah->Prop}{r:ag}{bP:List (au×ag)}{S3:au}{B:ee->ah->Prop}(d:∀RU Sb,(∀e m,h.heap.get? e=Z m->RU.get? e=Z m)->RU.Ns h.heap.objs.size (λ_=>V)->sg (h.heap.objs.size+1) So.names Sb RU->(∀f,(f,cP.cell)∈So.names->∃p,Sb.lookup f=Z p)->
   B (newEnv So h.heap.objs.size r (Sb++bP) S3 V .none (Z RZ) uP) {h with heap:=RU}):
  wpAny aA O (AK So r bP [] S3 V .none<|Z RZ) B RW h:=by
 unfold AK;refine aw (yf ?_);have Tu:(h.heap.push {cls:=.type (if (Z RZ).isSome=aa then "dict" else "frame"),data:=.dict #[]}).Ns h.heap.objs.size λ_=>V:=⟨_,#[],_,dh _ rfl,rfl,by intro a RT;simp at RT,λ_=>rfl⟩;refine aw (lR _ (λcK cells RV=>∃done Sb RU,done++cK=So.names/\cells=Sb++bP/\RV={h with heap:=RU}/\h.heap.objs.size+1<=RU.objs.size/\(∀e m,h.heap.get? e=Z m->RU.get? e=Z m)/\RU.Ns h.heap.objs.size (λ_=>V)/\sg (h.heap.objs.size+1) So.names Sb RU/\∀f,(f,cP.cell)∈done->∃p,Sb.lookup f=Z p) _ ?_ ?_ _ _ ⟨[],[],_,rfl,rfl,rfl,by rw[iF];exact bl _,λe m c=>cg _ c,Tu,⟨(λf p c=>by simp at c),(λf D p c=>by simp at c)⟩,(λf b=>nomatch b)⟩)
 ·rintro⟨l,b_⟩ cK cells RV ⟨done,Sb,RU,k,rfl,rfl,gr,ext,P,i,R6⟩;by_cases o:b_=.cell
  ·subst o;show wpAny aA O (alloc {cls:=.type "cell",data:=.cell V} >>= λg=>pure<|ForInStep.yield ((l,g)::(Sb++bP))) _ _ _;refine aw (yf<|aR ?_);have t:∀e m,RU.get? e=Z m->(RU.push {cls:=.type "cell",data:=.cell V}).get? e=Z m:=λe m c=>cg _ c;have u:∀p,(∃s,RU.IsCell p s)->p≠RU.objs.size:=λp ⟨s,m,c,_⟩=>cR (ck c);refine⟨done++[(l,.cell)],(l,RU.objs.size)::Sb,_,by rw[bg];exact k,rfl,rfl,by rw[iF];exact Gm gr,λe m c=>t e m<|ext e m c,P.push _,⟨λf p c=>?_,λf D p SQ j=>?_⟩,λf b=>?_⟩
   ·rw[gf]at c;by_cases b:f=l
    ·subst b;rw[gX]at c;cases c;exact⟨gr,⟨_,dh _ rfl,rfl⟩,by rw[<-k];exact di _ (.head _)⟩
    ·rw[show (f==l)=ay by simpa using b]at c;let⟨v,⟨m,w,x⟩,y⟩:=i.iE f p c;exact⟨v,⟨m,t p m w,x⟩,y⟩
   ·rw[gf]at SQ j;by_cases b:f=l
    ·by_cases n:D=l
     ·rw[b,n]
     ·rw[b,gX]at SQ;rw[show (D==l)=ay by simpa using n]at j;cases SQ;exact absurd rfl (u _ ⟨_,(i.iE D _ j).2.1⟩)
    ·rw[show (f==l)=ay by simpa using b]at SQ;by_cases n:D=l
     ·rw[n,gX]at j;cases j;exact absurd rfl (u _ ⟨_,(i.iE f _ SQ).2.1⟩)
     ·rw[show (D==l)=ay by simpa using n]at j;exact i.inj f D p SQ j
   ·rw[gf];by_cases q:f=l
    ·rw[q,gX];exact⟨_,rfl⟩
    ·rw[show (f==l)=ay by simpa using q];refine R6 f ((dJ.mp b).resolve_right λC=>?_);exact q (Prod.mk.inj<|cm.mp C).1
  ·have c:(b_==cP.cell)=ay:=by simpa using o
   show wpAny aA O (if (b_==cP.cell)=aa then _ else pure (ForInStep.yield<|Sb++bP)) _ _ _;rw[aG (by rw[c];exact c4)];refine aR ⟨done++[(l,b_)],Sb,RU,by rw[bg];exact k,rfl,rfl,gr,ext,P,i,λf b=>R6 f<|(dJ.mp b).resolve_right λC=>?_⟩;exact o (Prod.mk.inj<|cm.mp C).2.symm
 ·rintro cells RV ⟨done,Sb,RU,k,rfl,rfl,gr,ext,P,i,R6⟩;rw[bR]at k;subst k;exact aw (aR<|aR<|d RU Sb ext P i R6)
theorem mem_of_lookup:∀{J:List (au×cP)}{f:au}{n:cP},J.lookup f=Z n->(f,n)∈J
 |[],_,_,d=>by simp at d
 | (v,b)::u,f,n,d=>by
  rw[gf]at d;by_cases a:f=v
  ·subst a;rw[gX]at d;cases d;exact lP
  ·rw[show (f==v)=ay by simpa using a]at d;exact jc _ (mem_of_lookup d)
theorem x9{RZ:ee}:∀{J:List (au×cP)}{f:au}{n:cP},
  (J.map λ(v,n)=>if (n==cP.free&&RZ.scope.kind==.function&&RZ.kindOf v==Z .cell) then (v,cP.cell) else (v,n)).lookup f=Z n->
  (n=.cell\/n=.free)->(f,cP.free)∈J\/J.lookup f=Z .cell
 |[],f,n,d,_=>by simp at d
 | (v,e)::u,f,n,d,a=>by
  rw[bY]at d;dsimp only at d;by_cases h:f=v
  ·subst h;by_cases b:(e==cP.free&&RZ.scope.kind==.function&&RZ.kindOf f==Z .cell)=aa
   ·have:e=cP.free:=by
     simp only[cC]at b;exact by simpa using b.1.1
    subst this;exact .inl lP
   ·simp only[b]at d;have c:e=n:=by simpa [gf] using d
    subst c;rcases a with a|a
    ·exact .inr (by rw[gf,gX,a])
    ·rw[a];exact .inl lP
  ·have g:(f==v)=ay:=by simpa using h
   have RU:(u.map λ(v,n)=>if (n==cP.free&&RZ.scope.kind==.function&&RZ.kindOf v==Z .cell) then (v,cP.cell) else (v,n)).lookup f=Z n:=by
    by_cases b:(e==cP.free&&RZ.scope.kind==.function&&RZ.kindOf v==Z .cell)=aa
    ·rw[aD b,gf,g]at d;exact d
    ·rw[aG b,gf,g]at d;exact d
   rcases x9 RU a with C|C
   ·exact .inl (jc _ C)
   ·exact .inr (by rw[gf,g];exact C)
section
variable{b:aJ}
structure iJ(b:aJ)(So:gV)(own:List au)(SF:List Nat):Prop where
 kind:So.kind=.function
 QA:∀D∈So.names,D.2=.cell->So.names.lookup D.1=Z .cell
 free:∀D∈So.names,D.2=.free->b.env.scope.names.lookup D.1=Z .cell
 loc:∀D∈So.names,D.2=.local->So.names.lookup D.1=Z .local
 NM:∀a∈SF,∃f,b.N[a]?=Z f/\(f,cP.free)∈So.names/\So.names.lookup f=Z .free
def hg(b:aJ)(own:List au)(SF:List Nat):List au:=(own++SF.map λa=>b.N.getD a "")
def i9(own:List au)(SF:List Nat)(w:aZ):aZ:=(own.map (λ_=>V)++SF.map λa=>w.getD a V)
def iJ.cells(Se:iJ b So own SF)(ok:b.Ok):∀D∈So.names,D.2=.free->∃p,b.env.cells.lookup D.1=Z p:=
 λD a c=>ok.has D.1 (.inl<|Se.free D a c)
def iJ.sub(Se:iJ b So own SF)(ok:b.Ok){f:au}{p:ag}(d:(kd b.env So.names).lookup f=Z p):b.env.cells.lookup f=Z p/\(f,cP.free)∈So.names:=by
 rcases FI So.names [] f p d with ⟨c,i⟩|d
 ·let⟨@e,a⟩:=Se.cells ok (f,.free) i rfl;rw[show (List.lookup f b.env.cells)=Z e from a]at c;refine⟨?_,i⟩;rw[c];exact a
 ·simp at d
def iJ.two(Se:iJ b So own SF)(ok:b.Ok){Sb:List (au×ag)}{f:au}{p:ag}(d:(Sb++kd b.env So.names).lookup f=Z p):Sb.lookup f=Z p\/(Sb.lookup f=V/\b.env.cells.lookup f=Z p):=by
 rw[xD]at d;cases q:Sb.lookup f with
 |some x=>rw[q]at d;exact .inl d
 |none=>rw[q]at d;exact .inr ⟨rfl,(Se.sub ok d).1⟩
def aB.yn(l:aB b G w j h){f:au}{p:ag}(d:b.env.cells.lookup f=Z p):p<h.heap.objs.size:=by
 let⟨s,m,a,W⟩:=l.cell f p d;exact ck a
theorem Ce(Se:iJ b So own SF)(l:aB b G w j h)(v:h.heap.objs.size<=ae)(s:∀e∈bU,k4 b G j e)(y:∀e∈bU,e<h.heap.objs.size)(k:sg Tu So.names Sb t)(u:h.heap.objs.size<=Tu)(R6:∀f,(f,cP.cell)∈So.names->∃p,Sb.lookup f=Z p):(b.hh (hg b own SF) So ⟨ae,h,j,bU,Sb⟩).Ok where
 mod:=l.ok.mod
 kind:=Se.kind
 glob:=l.ok.glob
 blt:=l.ok.blt
 above:=v
 inj:=λf D p t A=>by
  rcases Se.two l.ok t with n|⟨_,n⟩<;>rcases Se.two l.ok A with o|⟨_,o⟩
  ·exact k.inj f D p n o
  ·exact absurd (ef (l.yn o)<|dx u (k.iE f p n).1) (ij _)
  ·exact absurd (ef (l.yn n)<|dx u (k.iE D p o).1) (ij _)
  ·exact l.ok.inj f D p n o
 has:=λf g=>by
  have i:(f,cP.free)∈So.names\/So.names.lookup f=Z .cell:=by
   rcases g with g|g
   ·exact x9 g (.inl rfl)
   ·exact x9 g (.inr rfl)
  show ∃p,(Sb++kd b.env So.names).lookup f=Z p;rw[xD];cases q:Sb.lookup f with
  |some x=>exact⟨x,rfl⟩
  |none=>
   rcases i with i|i
   ·exact vC So.names [] f (.inl i)
   ·let⟨p,r⟩:=R6 f (mem_of_lookup i);rw[q]at r;cases r
 ni:=λf p d z=>by
  have g:So.names.lookup f=Z .cell:=eq_of_beq d;let⟨B,r⟩:=R6 f (mem_of_lookup g);rcases Se.two l.ok z with C|⟨C,_⟩
  ·exact dx u (k.iE f p C).1
  ·rw[C]at r;cases r
 hd:=l.ok.hd
 frames:=l.ok.frames
 q2:=.inl rfl
 vJ:=λe a=>⟨cR<|ef (y e a) v,λf p d=>by
  rcases Se.two l.ok d with C|⟨_,C⟩
  ·exact kD (ef (y e a)<|dx u (k.iE f p C).1)
  ·exact (s e a).2.2.2.2.1 f p C⟩
 bs:=l.bs
 jX:=dx l.ok.jX l.gr
 mJ:=λe m c a=>by
  rcases (s e a).2.2.2.1 with C|C
  ·exact l.ok.mJ e m c C
  ·exact absurd (ef (ck c)<|dx l.ok.jX C) (ij _)
 oj:=λe a C=>by
  rcases cc.mp (l.vl e C) with c|c
  ·exact (s e a).2.1 c
  ·exact (s e a).2.2.1 c
 hy:=l.stack
 mn:=l.FW
theorem H7{SD:Nat}{i:au->Option ab}(Se:iJ b So own SF)(l:aB b G w j h)(O:h.heap.objs.size<=ae)(an:∀e∈bU,k4 b G j e)(ap:∀e∈bU,e<h.heap.objs.size)(A:∀e m,h.heap.get? e=Z m->t.get? e=Z m)(as:t.Ns ae i)(B:sg Tu So.names Sb t)(E:h.heap.objs.size<=Tu)(R6:∀f,(f,cP.cell)∈So.names->∃p,Sb.lookup f=Z p):
  aB (b.hh (hg b own SF) So ⟨ae,h,j,bU,Sb⟩) [] (i9 own SF w) j {h with heap:=t,toks:=SD} where
 ok:=Ce Se l O an ap B E R6
 os:=rfl
 bare:=l.bare
 base:=eT.kept A
 loc:=by
  let⟨@bv,E,a1⟩:=l.loc;refine⟨i,as,λr f s k c y=>?_⟩;have k:(own++SF.map λa=>b.N.getD a "")[r]?=Z f:=k;have c:(own.map (λ_=>(V:Option ao))++SF.map λa=>w.getD a V)[r]?=Z (Z s):=c;by_cases a2:r<own.length
  ·rw[lY (by rw[bt];exact a2),dT]at c;cases q:own[r]? with
   |none=>rw[q]at c;cases c
   |some C=>rw[q]at c;cases c
  ·rw[kN ⋯,dT]at k;rw[kN (by rw[bt];lia),dT,bt]at c;cases q:SF[r-own.length]? with
   |none=>rw[q]at k;cases k
   |some a=>
    rw[q]at k c;have k:b.N.getD a "" = f:=Option.some.inj k;have c:w.getD a V=Z s:=Option.some.inj c;let⟨@g,P,Q,R⟩:=Se.NM a (e0 q);have SQ:g=f:=by
     rw[<-k,ct,P];rfl
    subst SQ;have R6:w[a]?=Z (Z s):=by
     rw[ct]at c;cases S:w[a]? with
     |none=>rw[S]at c;cases c
     |some C=>rw[S]at c;rw[show C=Z s from c]
    have T:=Se.free (g,.free) Q rfl;let⟨@I,u,lk⟩:=a1 a g s P R6 (.inr<|.inl T);refine⟨I,u,.inr ⟨?_,?_⟩⟩
    ·rcases y with y|y|y
     ·
      exfalso;have:∀{J:List (au×cP)},J.lookup g=Z .free->(J.map λ(v,n)=>if (n==cP.free&&b.env.scope.kind==.function&&b.env.kindOf v==Z .cell) then (v,cP.cell) else (v,n)).lookup g≠Z .local:=by
       intro J;induction J with
       |nil=>intro d;simp at d
       |cons D u U=>
        let⟨v,n⟩:=D;intro d;rw[bY];dsimp only;by_cases al:g=v
        ·subst al;have bd:n=.free:=by simpa [gf] using d
         subst bd;by_cases z:(cP.free==cP.free&&b.env.scope.kind==ScopeKind.function&&b.env.kindOf g==Z cP.cell)=aa
         ·rw[aD z];simp[gf]
         ·rw[aG z];simp[gf]
        ·have F:(g==v)=ay:=by simpa using al
         rw[gf,F]at d;by_cases z:(n==cP.free&&b.env.scope.kind==ScopeKind.function&&b.env.kindOf v==Z cP.cell)=aa
         ·rw[aD z,gf,F];exact U d
         ·rw[aG z,gf,F];exact U d
      exact this R y
     ·exact .inl y
     ·exact .inr y
    ·rcases lk with ⟨be,_⟩|⟨_,p,bi,bm⟩
     ·exact absurd (be.symm.trans T) ↥0
     ·let⟨@ca,am⟩:=vC (RZ:=b.env) So.names [] g (.inl Q);have:=(Se.sub l.ok am).1;rw[bi]at this;cases this;let⟨@m,H,L⟩:=bm;have bn:Sb.lookup g=V:=by
       cases q:Sb.lookup g with
       |none=>rfl
       |some x=>
        have:=Se.QA _ (B.iE g x q).2.2 rfl;rw[R]at this;cases this
      exact⟨p,by show (Sb++kd b.env So.names).lookup g=Z p;rw[xD,bn];exact am,m,A _ _ H,L⟩
 cell:=λf p d=>by
  rcases Se.two l.ok d with C|⟨_,C⟩
  ·exact⟨_,(B.iE f p C).2.1⟩
  ·let⟨s,@m,H,L⟩:=l.cell f p C;exact⟨s,m,A _ _ H,L⟩
 free:=l.a0.fresh O
 h1:=λf p d=>by
  rcases Se.two l.ok d with C|⟨_,C⟩
  ·exact l.a0.fresh (dx E (B.iE f p C).1)
  ·exact l.h1 f p C
 pin:=λo bs=>nomatch bs
 a0:=l.a0.kept A
 len:=by simp[i9,hg,aJ.hh]
def F8(b:aJ)(To:List bj)(y:ei)(G:List (ag×a3)):Prop:=(
 ∀(h:ah) (w:aZ) (j:ax) (B:Bool->ax->Prop),aB b G w j h->y w j B->
  wpAny (aM b.prog b.w) b.A (forIn To aa λp u=>if u=aa then do let ok <-tS p b.env (bK p b.env);pure (ForInStep.yield ok) else pure (ForInStep.yield u)) (x1 b G w B) b.cH h)
def uC(b:aJ)(To:List bj)(y:ei):Prop:=(∀G,F8 b To y G)
def GZ:ei:=(λ_ j B=>B aa j)
def K8:uC b [] GZ:=λG h w j B l d=>wpAny_tests_nil ⟨j,l,d⟩
def Nx{p:bj}{y:ei}(d:ih b p y):uC b [p] y:=λG h w j B l a=>wpAny_tests_one (d G h w j B l a)
def LO(own:List au)(SF:List Nat)(L:gu)(T:ei)(S9:bZ)(w:aZ)(Si:List ao->ax->Prop)(Sh:List ao)(f:ao)(S:ax):Prop:=(
 L f (i9 own SF w) S λa Sf=>(∀(r:Nat) (s:ao),(i9 own SF w)[r]?=Z (Z s)->a[r]?=Z (Z s))/\T a Sf λe b=>if e=aa then S9 a b λs c=>Sh.length<sizeLine/\Si (Sh++[s]) c else Si Sh b)
def Ol(SY:eR)(own:List au)(SF:List Nat)(L:gu)(T:ei)(S9:bZ)(w:aZ)(R5:ax)(B:cx):Prop:=(
 ∃W:Nat->Nat->List ao->ax->Prop,(∃i,W 0 i [] R5)/\∀a i Sh j,W a i Sh j->(SY.stop a j/\∀k,j k=V->B (.ref k) (upd j k<|.lst Sh))\/
  (SY.go a j/\∃Si:List ao->ax->Prop,(∀b S,Si b S->∃c,c<i/\W (a+1) c b S)/\∀f S,SY.rP a j f S->LO own SF L T S9 w Si Sh f S))
def wC(own:List au)(SF:List Nat)(E:jh)(L:lW->gu)(T:lW->ei)(S9:lW->bZ):bZ:=(λw j B=>E w j λSY R5=>∀a:lW,Ol SY own SF (L a) (T a) (S9 a) w R5 B)
def vj(y:gV)(Si:List au)(So:gV)(SF:List Nat):Bool:=(
 So.kind==.function&&So.names.all (λD=>D.2 != .cell || So.names.lookup D.1==Z .cell)&&So.names.all (λD=>D.2 != .free || y.names.lookup D.1==Z .cell)&&So.names.all (λD=>D.2 != .local || So.names.lookup D.1==Z .local) &&
  SF.all (λa=>match Si[a]? with|some f=>So.names.lookup f==Z .free|none=>ay))
def u1{b:aJ}(y:gV)(Si:List au)(d:vj y Si So SF=aa)(c:b.env.scope=y:=by rfl)(i:b.N=Si:=by rfl):iJ b So own SF:=by
 unfold vj at d;simp only[cC,j_,bne_iff_ne,ne_eq,rQ,iQ]at d;let@⟨@⟨@⟨@⟨t,A⟩,j⟩,k⟩,l⟩:=d;refine⟨t,λD e g=>(A D e).resolve_left λC=>C g,λD e g=>?_,λD e g=>?_,λa RT=>?_⟩
 ·rw[c];exact (j D e).resolve_left λC=>C g
 ·exact (k D e).resolve_left λC=>C g
 ·have:=l a RT;rw[i];cases q:Si[a]? with
  |none=>rw[q]at this;cases this
  |some f=>
   rw[q]at this;have h:So.names.lookup f=Z .free:=by simpa using this
   exact⟨f,rfl,mem_of_lookup h,h⟩
def Kf{SU:Pos}{use:Option (ab->c8 Unit)}{f8:ab->ah->Prop}{lm:cx}(pm:b.calm=aa)(Se:iJ b So own SF)(RT:lj b Sz S4 E)(po:∀a2,jI (b.hh (hg b own SF) So a2) Sz<|L a2)(bL:∀a2,uC (b.hh (hg b own SF) So a2) To<|T a2)(pp:∀a2,bH (b.hh (hg b own SF) So a2) Tt<|S9 a2)(R6:∀f,nd S4 b.env f=pure f)(l:aB b G w j h)(d:wC own SF E L T S9 w j lm)(pr:∀(k ae:ag) (ga:ax) (P:ah) (i:au->Option ab),aB b G w ga P->P.heap.Ns ae i->ga ae=V->b.env.locals≠ae->(∀f p,b.env.cells.lookup f=Z p->p≠ae)->b.eI.heap.objs.size<=ae->(∀o∈b.ki++G,o.1≠ae)->lm (.ref k) ga->compPost (aM b.prog b.w) b.A b.cH use f8 (.ref k) ae (.ok .next) P):
  wpAny (aM b.prog b.w) b.A (DG (.ListComp Tt [⟨Sz,S4,To,0⟩] So Sd) So b.env SU (qs []) ay (bK S4 b.env) use) f8 b.cH h:=by
 refine wpAny_comprehension_free (use:=use) rfl R6 (O2<|Se.cells l.ok) Se.kind Se.loc (bO (RT G h w j _ l d) λs v6 t=>bO t λwf B A=>?_);let⟨R0,bU,N,SY,@Sf,c,an,R8,ge,bd,pt⟩:=A;subst c;have ci:∀e∈bU,e<B.heap.objs.size:=λe r=>by
  let⟨@m,c,Q⟩:=R8.obj _ _ ge e r;exact ck c
 refine gp (QX λgl Sb ext db bn ln=>?_);dsimp only at db ext bn ⊢;generalize gt:B.heap.push {cls:=.type "list",dict:=V,data:=.seq ([]:List ab).toArray}=ds at db ext bn ⊢;have dL:ds.objs.size=B.heap.objs.size+1:=by rw[<-gt,iF]
 have bs:B.heap.objs.size≠ds.objs.size:=by rw[dL];exact cR (k6 _)
 have eq:B.heap.objs.size<=ds.objs.size:=by rw[dL];exact si _
 have g1:∀e m,B.heap.get? e=Z m->gl.get? e=Z m:=λe m c=>ext e m (gt ▸ cg _ c);have ls:gl.get? B.heap.objs.size=Z {cls:=.type "list",data:=.seq ([]:List ab).toArray 0}:=ext _ _ (gt ▸ dh _ rfl);generalize wl:ds.objs.size=ae at db bn dL bs eq ⊢;have ev:B.heap.objs.size<=ae+1:=Gm eq;generalize as:B.heap.objs.size=k at ls dL bs eq ⊢;have bv:B.heap.objs.size<=ae:=by rw[as];exact eq
 let⟨@W,⟨@pu,hN⟩,turn⟩:=pt ⟨ae,B,Sf,bU,Sb⟩;have lv:=λ(SD:Nat)=>H7 (SD:=SD) Se an bv bd ci g1 db bn ev ln;have lw:=po ⟨ae,B,Sf,bU,Sb⟩;have mb:=bL ⟨ae,B,Sf,bU,Sb⟩;have mo:=pp ⟨ae,B,Sf,bU,Sb⟩;have g2:=Ce Se an bv bd ci bn ev ln;generalize R:b.hh (hg b own SF) So ⟨ae,B,Sf,bU,Sb⟩=x at lv lw mb mo g2;have ca:x.prog=b.prog:=by rw[<-R];rfl
 have cd:x.w=b.w:=by rw[<-R];rfl
 have mp:x.K=b.K:=by rw[<-R];rfl
 have cl:x.A=b.A:=by rw[<-R];rfl
 have ms:x.calm=aa:=by rw[<-R];exact pm
 have da:x.env.locals=ae:=by rw[<-R];rfl
 have g3:x.ex=bU:=by rw[<-R];rfl
 have fd:x.eI=B:=by rw[<-R];rfl
 have py:x.lG=Sf:=by rw[<-R];rfl
 have rc:x.ak=hO b.stack:=by rw[<-R];rfl
 have fn:x.ki=[]:=by rw[<-R];rfl
 have hd:x.cH=λ_ Q=>False:=by rw[<-R];rfl
 have m0:x.env=sR So (Sb++kd b.env So.names) ae b.env:=by rw[<-R];rfl
 have na:∀f p,x.env.cells.lookup f=Z p->ae+1<=p\/b.env.cells.lookup f=Z p:=λf p d=>by
  rw[m0]at d;rcases Se.two an.ok d with C|⟨_,C⟩
  ·exact .inl (bn.iE f p C).1
  ·exact .inr C
 have re:∀f p,x.env.cells.lookup f=Z p->p≠k:=λf p d C=>by
  rcases na f p d with D|D
  ·rw[C,<-as]at D;exact absurd (dx (DA bv) D) (Nat.not_succ_le_self _)
  ·have:=an.yn D;rw[C,<-as]at this;exact ij _ this
 have he:∀e∈bU,e≠k:=λe r C=>by
  have:=ci e r;rw[C,<-as]at this;exact ij _ this
 have rs:k∉x.ak:=λC=>by
  let@⟨_,⟨@m,ce,_⟩⟩:=g2.hy.mem C;rw[fd]at ce;have:=ck ce;rw[as]at this;exact ij _ this
 have hf:∀(S:ax) (m:a3),(∀e∈bU,S e=V)->∀e∈bU,k4 x [(k,m)] S e:=λS m hm e r=>by
  refine⟨hm e r,?_,?_,.inl (by rw[g3];exact r),λf p d=>(na f p d).elim (λD=>kD (ef (ci e r) (dx ev (by rw[as]at ev;exact D)))) λD=>(bd e r).2.2.2.2.1 f p D,λo F=>?_⟩
  ·rw[da];exact cR (ef (ci e r) bv)
  ·exact g2.oj e (by rw[g3];exact r)
  ·rw[fn]at F;have:o=(k,m):=by simpa using F
   rw[this];exact eH (he e r)
 have nb:∀hw:ah,hw={B with heap:=gl,toks:=B.toks+([]:List (au×ab)).length}->
   codeAny (aM b.prog b.w) b.A (.compLoop (.ListComp Tt [⟨Sz,S4,To,0⟩] So Sd) 0 (.ref R0) (.ref k) x.env)
    (compPost (aM b.prog b.w) b.A b.cH use f8 (.ref k) ae) hw:=by
  rintro hw rfl;refine NA (λv RV=>∃(a:Nat) (Sh:List ao) (S:ax) (Sa:List ab) (n:Nat),aB x [(k,{cls:=.type "list",data:=.seq Sa.toArray n})] (i9 own SF w) S RV/\bN Sh Sa/\Sh.length<=sizeLine/\N a RV.heap/\
   (∀e∈bU,S e=V)/\W a v Sh S) ?_ pu ?_
  ·rintro v ne ⟨a,Sh,U,Sa,n,h0,fr,nl,nm,nn,c_⟩;rcases turn a v Sh U c_ with ⟨stop,sc⟩|⟨go,Si,no,step⟩
   ·have:=R8.done x ca cd mp ms a _ ne _ U (λ_ Q=>False) h0 (hf U _ nn) nm stop;rw[cl]at this;refine bO this λu P al=>?_;let@⟨ii,be⟩:=al;subst ii;let⟨@i,hm,Q⟩:=be.loc;have sn:P.heap.Ns ae i:=by rw[<-da];exact hm
    have F:=be.pin (k,{cls:=.type "list",data:=.seq Sa.toArray n}) (by rw[fn];simp);have ch:U k=V:=F.2.1;have cL:∀e,e≠ae->P.heap.get? e=P.heap.get? e:=λe r=>rfl;have bm:∀e m,B.heap.get? e=Z m->e≠ae:=λe m c=>cR (ef (ck c) bv);have sp:∀e m,B.heap.get? e=Z m->e≠k:=λe m c=>by rw[<-as];exact cR (ck c)
    have ap:eT (hO b.stack) bU Sf U B.heap P.heap:=by
     have:=be.base;rw[rc,g3,py,fd]at this;exact this
    have I:eT (hO b.stack) bU Sf (upd U k<|.lst Sh) B.heap P.heap:=
     ⟨λe m c v r a1=>(cL e<|bm e m c).trans<|ap.keep e m c v r a1,
      λe m c v r a1=>by
      let⟨@bJ,q⟩:=ap.slot e m c v r a1;exact⟨bJ,(cL e<|bm e m c).trans q⟩,
      λe m c v a1=>by rw[b9 (sp e m c)];exact ap.free e m c v a1,
      λe m z c y a1=>(cL e<|bm e m c).trans<|ap.iR e m z c y a1,
      λe m c a1=>by
      let⟨@SG,q⟩:=ap.there e m c a1;exact⟨SG,(cL e<|bm e m c).trans q⟩,
      λe z c=>by rw[b9 (jE (ap.ig e z c) ch)];exact ap.ig e z c,
      λe m z c=>by rw[b9 (jE (ap.h_ e m z c) ch)];exact ap.h_ e m z c,
      λe RY c=>by
      let⟨@ss,q⟩:=ap.kc e RY c;exact⟨ss,by rw[b9 (jE q ch)];exact q⟩⟩
    have np:∀e m,U e=Z m->e≠ae:=λe m c C=>by
     have:=be.free;rw[da,<-C,c]at this;cases this
    have sw:dI b.prog b.w (upd U k<|.lst Sh) P.heap:=λg m c=>by
     by_cases ns:g=k
     ·subst ns;rw[dV]at c;cases c;exact⟨nl,Sa,n,fr,(cL _ bs).trans F.1⟩
     ·rw[b9 ns]at c;have:=be.a0 g m c;rw[ca,cd]at this;refine this.gw (λe I r q=>(cL e ?_).trans q) (λe q=>by rw[b9 (jE q ch)];exact q) λe z q=>by rw[b9 (jE q ch)];exact q
      rcases r with C|C
      ·rw[C];exact np g m c
      ·exact np e _ C
    have sB:aB b G w (upd U k<|.lst Sh) P:=an.NU (RV:=P) (Td:=bU) (by have:=be.os;rw[fd]at this;exact this) I sw be.bare λe r=>⟨(bd e r).2.2.2.1,(bd e r).2.1,(bd e r).2.2.2.2.1,(bd e r).2.2.2.2.2⟩;have sK:b.env.locals≠ae:=by
     let⟨@wn,s0,Q⟩:=an.loc;let⟨m,Q,@Q,ce,Q⟩:=s0;exact bm _ _ ce
    have s1:∀f p,b.env.cells.lookup f=Z p->p≠ae:=λf p d=>by
     let⟨s,@m,ce,Q⟩:=an.cell f p d;exact bm _ _ ce
    refine pr k ae _ P i sB sn ?_ sK s1 ?_ (λo F=>bm _ _ (an.pin o F).1) (sc k ch)
    ·rw[b9 (eH bs)];have:=be.free
     rwa [da]at this
    ·exact dx an.gr bv
   ·have:=R8.item x ca cd mp ms a _ ne _ U (λ_ Q=>False) h0 (hf U _ nn) nm go;rw[cl]at this;refine bO this λu P al=>?_;let⟨@I,ii,s2⟩:=al;subst ii;refine bO s2 λ_ co al=>?_;let⟨f,@im,s3,s4,s5,io,to⟩:=al;have tt:=s3.pinned (hf im _ to) (R8.obj _ _ io);have nw:=lw _ co _ im f I _ tt s4 (step f im s5);rw[ca,cd,cl,hd]at nw;refine bO nw λ_ ty al=>?_;let⟨cr,@tz,t0,t1,t3⟩:=al;have of:=mb _ ty cr tz _ t0 t3;rw[ca,cd,cl,hd]at of;refine bO of λe ul al=>?_;let⟨@ol,f0,f1⟩:=al;have on:∀{op:aZ}{S:ax}{RV:ah},aB x ([(k,{cls:=.type "list",data:=.seq Sa.toArray n})]++lz bU co.heap) op S RV->(∀e∈bU,S e=V)/\N (a+1) RV.heap:=λ{op S RV} cs=>by
     refine⟨λe r=>?_,R8.keep _ _ _ io λe r m c=>(cs.pin (e,m)<|di _<|di _<|uj r c).1⟩;let⟨@m,c,Q⟩:=R8.obj _ _ io e r;exact (cs.pin (e,m)<|di _<|di _<|uj r c).2.1
    have dF:∀{it:List (ag×a3)}{S:ax}{RV:ah},aB x it cr S RV->aB x it (i9 own SF w) S RV:=λ{it S RV} cs=>
     cs.weak (by rw[cs.len,h0.len]) t1;cases e with
    |false=>
     rw[aG c4]at f1;let⟨@jp,kt,un⟩:=no _ _ f1;rw[aG c4];let@⟨kw,lc⟩:=on f0;exact⟨jp,kt,a+1,Sh,ol,Sa,n,dF (f0.oP λo F=>f0.pin o (by
      rw[fn];simp at F ⊢;exact .inl F)),fr,nl,lc,kw,un⟩
    |true=>
     rw[aD rfl]at f1 ⊢;have o0:=mo _ ul cr ol _ f0 f1;rw[ca,cd,cl,hd]at o0;refine bO o0 λam bi al=>?_;let⟨up,@lf,f2,us,wr,ut⟩:=al;let⟨@jp,kt,u8⟩:=no _ _ ut;have F:=f2.pin (k,{cls:=.type "list",data:=.seq Sa.toArray n}) (di _ (ea _ ↥0));have li:=F.1;refine qr zj ⟨_,li,rfl⟩ Av (Ag _ _) (B5 k Sa.toArray n am (by rw[cO,<-fr.length];lia)) ⟨li,?_⟩;have q:=BI li (λg=>g.push am);let@⟨kw,lc⟩:=on f2;have v0:aB x (lz bU co.heap) cr lf bi:=f2.oP λo F=>f2.pin o (di _<|di _ F);have pc:∀e m,e≠k->bi.heap.get? e=Z m->(bi.heap.update k<|a3.mapSeq λg=>g.push am).get? e=Z m:=λe m r c=>(hP bi.heap _<|eH r).trans c;have v1:aB x (lz bU co.heap) cr lf {bi with heap:=bi.heap.update k (a3.mapSeq λg=>g.push am),toks:=bi.toks}:=
      v0.turned (R0:=k) pc F.2.1 (by rw[da];exact bs) (.inr (by rw[fd,as];exact bl _)) re λo f4=>by
       rw[fn]at f4;let@⟨r,_⟩:=E6 (show o∈lz bU co.heap by simpa using f4);exact he _ r
     refine⟨jp,kt,a+1,Sh++[up],lf,Sa++[am],n+1,dF<|v1.oP λo f4=>?_,fr.append<|.cons us .nil,?_,?_,kw,u8⟩
     ·have c:o=(k,{cls:=.type "list",data:=.seq (Sa++[am]).toArray (n+1)}):=by simpa using f4
      subst c;refine⟨?_,F.2.1,F.2.2.1,F.2.2.2.1,λs C=>by cases C⟩;have v2:Sa.toArray.push am=(Sa++[am]).toArray:=by simp
      rw[<-v2];have pi:IsL (bi.heap.update k<|a3.mapSeq λg=>g.push am) k (Sa.toArray.push am) (if (Sa.toArray.push am).size==Sa.toArray.size then n else n+1):=q;rw[aG ↥0]at pi;exact pi
     ·rw[d4,mD];lia
     ·refine R8.keep _ _ _ lc λe r m c=>pc e m (he e r) c
  ·refine⟨0,[],Sf,[],0,?_,.nil,gP _,R8.keep _ _ _ ge λe Q m c=>g1 e m c,λe r=>(bd e r).1,hN⟩;refine (lv _).oP λo F=>?_;have c:o=(k,{cls:=.type "list",data:=.seq ([]:List ab).toArray 0}):=by simpa using F
   subst c;exact⟨ls,an.a0.fresh (by rw[as];exact bl _),by rw[da];exact bs,rs,λs C=>by cases C⟩
 have v4:sR So (Sb++kd b.env So.names) ae b.env=x.env:=m0.symm;show codeAny (aM b.prog b.w) b.A (.compStart _ 0 (.ref R0) (.ref k)<|sR So (Sb++kd b.env So.names) ae b.env) _ _;rw[v4];exact codeAny_compStart_list (nb _ rfl) (R8.self b.A 0 _ _ _ (R8.keep _ _ _ ge λe Q m c=>g1 e m c)<|nb _ rfl)
def IZ(n:b.calm=aa)(Se:iJ b So own SF)(RT:lj b Sz S4 E)(r:∀a,jI (b.hh (hg b own SF) So a) Sz<|L a)(bL:∀a,uC (b.hh (hg b own SF) So a) To<|T a)(s:∀a,bH (b.hh (hg b own SF) So a) Tt<|S9 a)(R6:∀f,nd S4 b.env f=pure f:=by intro W;rfl):bH b (.ListComp Tt [⟨Sz,S4,To,0⟩] So Sd) (wC own SF E L T S9):=by
 intro G h w j B l d;show wpAny _ b.A (DG (.ListComp Tt [⟨Sz,S4,To,0⟩] So Sd) So b.env _ (qs []) ay (bK S4 b.env) V) _ _ h;refine Kf (use:=V) (f8:=e_ b G w B) n Se RT r bL s R6 l d λk ae t g i u v F J p C o q=>?_;show ∃i,g.heap.Ns ae i/\∀RU,aV.SameBut ae g.heap RU->e_ b G w B (.ref k) {g with heap:=RU};refine⟨i,v,λRU cJ=>⟨.ref k,t,?_,rfl,q⟩⟩;exact u.turned (R0:=ae) (Sw:=g.toks) (λe m x c=>(cJ.2 e x).trans c) F (eH J) (.inr C) p o
end
def gQ(d:aV)(x:ag)(R:List ab)(Ss:Nat):Prop:=(∃m U,d.get? x=Z m/\m.ExactDict/\m.data=.dict U Ss/\U.toList.map (·.key)=R)
def gQ.ty(f:gQ h.heap x R Ss):h.TypeIs (.ref x) "dict" := let ⟨m,_,c,p,_⟩:=f;⟨m,c,p.1⟩
def gQ.lt(f:gQ d x R Ss):x<d.objs.size:=let ⟨_,_,c,_⟩:=f;ck c
def gQ.go{RU:aV}(f:gQ d x R Ss)(n:∀m,d.get? x=Z m->RU.get? x=Z m):gQ RU x R Ss:=let ⟨m,U,c,u⟩:=f;⟨m,U,n m c,u⟩
section
variable{R3:bp}{H:a7}{O:bf}{RW:ab->ah->Prop}{h:ah}
def Bf{B:ab->ah->Prop}(P:(x==jA)=ay)(f:gQ h.heap x R Ss)(q:B (.ref h.heap.objs.size) {h with heap:=h.heap.push {cls:=.type "dict_keyiterator",data:=.fields #[.ref x,.int 0 0,.int R.length 0,.int Ss 0]} }):wpAny (aM R3 H) O (nA<|.ref x) B RW h:=by
 have ty:=f.ty;let⟨m,@U,a,d,b,c⟩:=f;have v:U.size=R.length:=by rw[<-c,bt,c6]
 refine ys ty zH (i0 zH ty F.entry_dict_iter ?C<|F.args_dict_iter_1 _)
 case C=>
  unfold bq.«dict.__iter__» bq.Dict.dictSlotNone;refine aw (aw<|Fb ty ?_);show wpAny _ _ (pure<|ab.ref x) _ _ h;apply aR;show wpAny _ _ (bq.Dict.showsAll x >>= _) _ _ h;unfold bq.Dict.showsAll;rw[aG (by rw[P];simp)];refine aw (aR<|aw<|xY a b<|aw<|yX a b<|aw<|gp<|aR ⟨_,rfl,"dict_keyiterator",_,⟨_,dh _ rfl,rfl⟩,qo.lookup,?_⟩);simpa [eS,v] using q
def FN{s:ab}(b:h.heap.IsKeyIter R0 x a R.length Ss)(f:gQ h.heap x R Ss)(d:R[a]?=Z s)(q:∀RU,RU.IsKeyIter R0 x (a+1) R.length Ss->aV.SameBut R0 h.heap RU->B (Z s) {h with heap:=RU}):wpAny (aM R3 H) O (fz<|.ref R0) B RW h:=by
 let⟨@o,e,l,c⟩:=id b;let⟨m,@U,g,p,i,j⟩:=f;have v:U.size=R.length:=by rw[<-j,bt,c6]
 have RT:a<U.size:=by
  have:a<R.length:=(e4.mp d).1;lia
 have n:U[a].key=s:=by
  rw[<-j,dT,eg,i5 RT]at d;exact Option.some.inj d
 unfold fz;refine aw (tF<|rm (name:=au.ofString "__next__") b.typeIs qo<|i0 qo b.typeIs EW ?C<|z9 _)
 case C=>
  refine aw (aR<|aw<|aw ?_);refine aw (sA b.typeIs<|aR<|aw<|ou e c ?_);simp only[show bq.Dict_items.ownsTuple "dict_keyiterator" = ay by decide,gE,fl];show wpAny _ _ (if (ab.ref x==ab.none)=aa then _ else _) _ _ h;rw[aG (show ¬ (ab.ref x==ab.none)=aa by intro C;cases C)];refine aw (aR<|aw<|xY g i ?_);rw[aG (by simp[v])];refine aw (aR<|aw<|yX g i ?_);rw[aG ↥0];apply aR;simp only[show ¬ ((a:Int)<0) by lia,fl,qg,i5 RT];refine aw (aw<|sA b.typeIs<|aR<|aw<|BR b.typeIs ?_);show wpAny _ _ (xl (.ref R0) 1 (eS<|(a:Int)+1) >>= _) _ _ h;have k:(h.heap.update R0 (a3.mapFields (·.setIfInBounds 1 (eS<|(a:Int)+1)))).IsKeyIter R0 x (a+1) R.length Ss:=
   ⟨_,ml _ e<|Ba<|ur c _,(Gq ..).trans l,by rw[ur c];simp[eS]⟩;refine aw (rI e c ↥0 (aw (fU (aw (BR (s:={h with heap:=h.heap.update R0 (a3.mapFields (·.setIfInBounds 1 (eS<|(a:Int)+1)))}) k.typeIs ?_)))));show wpAny _ _ (pure U[a].key) _ _ _;rw[n];exact aR (aR ⟨_,rfl,aR<|q _ k<|mC ..⟩)
def Co(l:O.handled=V)(b:h.heap.IsKeyIter R0 x a R.length Ss)(f:gQ h.heap x R Ss)(o:R.length<=a)(q:∀RU,aV.ExtBut R0 h.heap RU->B V {h with heap:=RU}):wpAny (aM R3 H) O (fz<|.ref R0) B RW h:=by
 let⟨@p,c,r,d⟩:=id b;let⟨m,@U,j,s,k,n⟩:=f;have v:U.size=R.length:=by rw[<-n,bt,c6]
 unfold fz;refine aw (tF<|rm (name:=au.ofString "__next__") b.typeIs qo<|i0 qo b.typeIs EW ?C<|z9 _)
 case C=>
  refine aw (aR<|aw<|aw ?_);refine aw (sA b.typeIs<|aR<|aw<|ou c d ?_);simp only[show bq.Dict_items.ownsTuple "dict_keyiterator" = ay by decide,gE,fl];show wpAny _ _ (if (ab.ref x==ab.none)=aa then _ else _) _ _ h;rw[aG (show ¬ (ab.ref x==ab.none)=aa by intro C;cases C)];refine aw (aR<|aw<|xY j k ?_);rw[aG (by simp[v])];refine aw (aR<|aw<|yX j k ?_);rw[aG ↥0];apply aR;simp only[show ¬ ((a:Int)<0) by lia,fl,qg,xX (show U.size<=a by lia)];refine aw (aw<|sA b.typeIs<|aR ?_);show wpAny _ _ (xl (.ref R0) 0 .none >>= _) _ _ h;refine aw (rI c d ↥0 ?_);show wpAny _ _ (uE (.type "StopIteration") [] >>= _) _ _ _;apply aw;simp only[uE,wF];refine aw (gp (aw (m:=tV _ _) (tw (a:=ab.none) (by first|rfl|(simp only[tV];rfl)) (gp ?_ (by size_fits)))) (by size_fits));simp only[raiseNew];apply aw;apply Bw;rw[show O.in1.handled=V from l];refine aw (m:=pure _) (aR<|wpAny_throw ?_);apply aw;refine sk (T := "StopIteration") (b:=aa) ⟨_,dh _ rfl,rfl⟩ EZ ?_;exact aR (q _<|((mC ..).extBut.push _).push _)
theorem Hx(j:O.handled=V)(R0 x:ag)(ne:x≠R0)(R:List ab)(Ss:Nat):jx R3 H O R0 [R0,x] [R0] R.length (λa s=>R[a]?=Z s) (λa d=>d.IsKeyIter R0 x a R.length Ss/\gQ d x R Ss) where
 sub:=λe k=>by
  have:e=R0:=by simpa using k
  simp[this]
 frame:=λa d RU Y n=>⟨let ⟨m,c,u⟩:=Y.1;⟨m,n R0 ↥0 m c,u⟩,Y.2.go (n x ↥0)⟩
 item:=λa h B RW RT Y b=>by
  have i:R[a]?=Z R[a]:=by simp[RT]
  refine FN Y.1 Y.2 i λRU g e=>b _ RU h.toks i ⟨g,Y.2.go λm c=>e.extBut x m ne c⟩ λp m f c=>e.extBut p m ⇑f c
 done:=λh B RW Y b=>Co j Y.1 Y.2 (bl _) λRU e=>b RU h.toks λp m f c=>e p m ⇑f c
 self:=λa h B RW Y b=>Bz Y.1 b
theorem Ip(P:(x==jA)=ay):PySem.W.KdlSrc R3 H "dict" x x R.length (λa s=>R[a]?=Z s) (λd=>gQ d x R Ss) where
 type:=λh f=>f.ty
 there:=λd f=>⟨f.lt,f.lt⟩
 keep:=λd RU f n=>f.go (n x<|.inl rfl)
 notList:=by decide
 notTuple:=by decide
 hint:=λO RW h B f q=>PySem.W.kdl_hint_dict f.ty q
 iter:=λO h b f=>⟨_,_,(λRW B q=>Bf P f q),Hx b _ x (cR f.lt) R Ss,⟨⟨_,dh _ rfl,rfl,rfl⟩,f.go λm c=>cg _ c⟩⟩
end
end L2
namespace L2
open Spec PyProof.Rows PySem.W
section
variable{v:Nat}{M:Nat->Int}{b:Nat->Nat->(Bool->ah->Prop)->ah->Prop}
def a6(M:Nat->Int)(o:Array Nat)(a:Nat):Int:=(M (o.getD a 0))
def kA(M:Nat->Int)(o:Array Nat)(i:Nat):Prop:=(∀a r,a<=r->r<i->a6 M o a<=a6 M o r)
def fv(v:Nat)(M:Nat->Int)(b:Nat->Nat->(Bool->ah->Prop)->ah->Prop)(h:ah):Prop:=(∀a r ae,a<v->r<v->ae (decide (M a<M r)) h->b a r ae h)
def cQ(v:Nat)(o:Array Nat):Prop:=(o.toList.Perm (range v))
variable{o:Array Nat}
def cQ.size(d:cQ v o):o.size=v:=by
 have:=d.length_eq;simpa using this
def cQ.lt(d:cQ v o){a:Nat}(RT:a<v):o.getD a 0<v:=by
 have R6:=d.size;have c:o.getD a 0=o[a]:=by simp[Array.getD,R6,RT]
 rw[c];have:o[a]∈o.toList:=by simp
 exact en.mp (d.mem_iff.mp this)
def cQ.ne(d:cQ v o)(inj:∀a r,a<v->r<v->M a=M r->a=r){a r:Nat}(i:a<r)(b:r<v):a6 M o a≠a6 M o r:=by
 intro c;have R6:=d.size;have e:=inj _ _ (d.lt (by omega)) (d.lt b) c;have f:o.getD a 0=o[a]:=by simp[Array.getD,R6,show a<v by omega]
 have g:o.getD r 0=o[r]:=by simp[Array.getD,R6,b]
 rw[f,g]at e;have aj:o.toList.Nodup:=d.nodup_iff.mpr ro;have h:o.toList[a]'(by simpa [R6] using (show a<v by omega))=o.toList[r]'(by simpa [R6] using b):=by simpa using e
 have:=(Ab aj).mp h;omega
def lC{q:Array Nat}{a r:Nat}(c:o[a]?=q[r]?):a6 M o a=a6 M q r:=by
 unfold a6;rw[BD,BD,c]
theorem cQ.rev(d:cQ v o)(a r:Nat):cQ v (lZ o a r):=(By.mp<|mirror_perm o a r _).trans d
theorem cQ.QO(d:cQ v o)(a r:Nat):cQ v (qH o a r):=(By.mp<|bubble_perm o a r).trans d
end
section
variable{R3:bp}{H:a7}{O:bf}{RW:ab->ah->Prop}{Sn:gd}{R0:Array ba}{M:Nat->Int}{v:Nat}{h:ah}
def oT:Bool->ba->Array ba->Nat->Nat->Nat->StateT bk c8 (Option Nat):=(sortPriv% PySem.Builtin.gallop)
def rt(b:fv v M (eK R3 H O Sn R0) h){a r:Nat}(RT:a<v)(c:r<v){Y:bk}(e:kindOf Y=Sn){B:Option Bool->bk->ah->Prop}(d:B (Z<|decide (M a<M r)) Y h):
  kasC (aM R3 H) O RW (lt' (a9 R0 a)<|a9 R0 r) B Y h:=by
 rw[lt'_eq];apply a_;apply jj;have:=b a r (λp RV=>RV=h/\p=decide (M a<M r)) RT c ⟨rfl,rfl⟩;unfold eK at this;rw[e];refine a_ (nI<|tF<|gT this (λp RV f=>?_) λ_ W g=>g.elim);let@⟨rfl,rfl⟩:=f;exact a8 d
theorem f_{w SX:Type}{aA:fX}{F:Nat->SX->StateT w c8 (ForInStep SX)}{B:SX->w->ah->Prop}(l:Nat->SX->w->ah->Prop)(step:∀f p Y RV,l f p Y RV->kasC aA O RW (F f p) (λu b e=>match u with | .yield a=>l (f+1) a b e | .done a=>B a b e) Y RV):∀(i g:Nat) (p:SX) (Y:w) (RV:ah),(∀p Y RV,l (g+i) p Y RV->B p Y RV)->l g p Y RV->
   kasC aA O RW (forIn (range' g i) p F) B Y RV
 |0,g,p,Y,RV,h,d=>by
  show kasC aA O RW (forIn ([]:List Nat) p F) B Y RV;exact kasC_nil (h p Y RV d)
 |i+1,g,p,Y,RV,h,d=>by
  show kasC aA O RW (forIn (g::range' (g+1) i) p F) B Y RV;refine kasC_cons (gT (step g p Y RV d) (λu e RU=>?_) λ_ W c=>c);let⟨u,b⟩:=u;cases u with
  |done a=>exact RU
  |yield a=>exact f_ l step i (g+1) a b e (λp Y RV RT=>h p Y RV (by rw[show g+(i+1)=g+1+i by lia];exact RT)) RU
def cA(M:Nat->Int)(left:Bool)(n:Nat)(bG:Array Nat)(R7 a:Nat):Bool:=(if left=aa then decide (M (bG.getD (R7+a) 0)<M n) else !decide (M n<M (bG.getD (R7+a) 0)))
def Dw(N:fv v M (eK R3 H O Sn R0) h){left:Bool}{n:Nat}(Q:n<v){bG:Array Nat}(U:∀a,a<bG.size->bG.getD a 0<v){R7 i b:Nat}(ap:R7+i<=bG.size)(al:b<i)(mono:∀a r,a<=r->r<i->cA M left n bG R7 r=aa->cA M left n bG R7 a=aa){Y:bk}(R:kindOf Y=Sn){B:Option Nat->bk->ah->Prop}(d:∀u,u<=i->(∀a,a<u->cA M left n bG R7 a=aa)->(∀a,u<=a->a<i->cA M left n bG R7 a=ay)->B (Z u) Y h):
  kasC (aM R3 H) O RW (oT left (a9 R0 n) (bG.map<|a9 R0) R7 i b) B Y h:=by
 have am:∀a,a<i->(bG.map<|a9 R0)[R7+a]?=Z (a9 R0<|bG.getD (R7+a) 0):=λa RT=>by
  have:R7+a<bG.size:=⋯
  simp[Array.getD,this]
 have ask:∀a,a<i->∀L:Option Bool->bk->ah->Prop,L (Z<|cA M left n bG R7 a) Y h->
   kasC (aM R3 H) O RW (do let f <-elem' (bG.map<|a9 R0) (R7+a);if left=aa then lt' f (a9 R0 n) else do let u <-lt' (a9 R0 n) f;pure (u.map λf=>!f)) L Y h:=λa RT L G=>by
  rw[rZ,am a RT];apply a_;apply a8;have S:=U (R7+a) ⋯;unfold cA at G;cases left with
  |true=>
   rw[aD rfl]at G ⊢;exact rt N S Q R G
  |false=>
   rw[aG c4]at G ⊢;exact a_ (rt N Q S R<|a8 G)
 unfold oT;with_unfolding_all refine a_ ?_;refine ask b al _ ?_;dsimp only;cases T:cA M left n bG R7 b with
 |true=>
  rw[aD rfl];apply a_;apply fu;have kC:∀last j,last<j->b+last<i->cA M left n bG R7 (b+last)=aa->(j >= i-b\/cA M left n bG R7 (b+j)=ay)->
    b+last+1<=b+min j (i-b)/\b+min j (i-b)<=i/\(∀a,a<b+last+1->cA M left n bG R7 a=aa)/\(∀a,b+min j (i-b)<=a->a<i->cA M left n bG R7 a=ay)/\b+min j (i-b)-(b+last+1)<=i-0:=λlast j an S1 J E=>by
   refine⟨⋯,⋯,λa RT=>mono a (b+last) ⋯ S1 J,λa t A=>?_,⋯⟩;rcases E with E|E
   ·lia
   ·cases x:cA M left n bG R7 a with
    |false=>rfl
    |true=>rw[mono (b+j) a ⋯ A x]at E;cases E
  refine f_ (λf p m RV=>m=Y/\RV=h/\∃last j,p=(V,last,j)/\last<j/\f<j/\b+last<i/\cA M left n bG R7 (b+last)=aa) ?_ _ 0 _ _ _ ?_ ⟨rfl,rfl,0,1,rfl,⋯,⋯,⋯,T⟩
  ·rintro f p m RV ⟨o,q,last,j,rfl,t,A,k,l⟩;rw[o,q];dsimp only;by_cases F:j >= i-b
   ·rw[aD F];apply a8;dsimp only;have y:=kC last j t k l (.inl F);apply a_;apply fu;refine f_ (λf p m RV=>m=Y/\RV=h/\∃P RT,p=(V,P,RT)/\P<=RT/\RT<=i/\(∀a,a<P->cA M left n bG R7 a=aa)/\(∀a,RT<=a->a<i->cA M left n bG R7 a=ay)/\RT-P<=i-f) ?_ _ 0 _ _ _ ?_ ⟨rfl,rfl,_,_,rfl,y⟩
    ·rintro f p m RV ⟨o,q,P,RT,rfl,t,A,k,l,z⟩;rw[o,q];dsimp only;by_cases w:P >= RT
     ·rw[aD w];apply a8;dsimp only;have c:P=RT:=⋯
      subst c;exact a8 (d P A k l)
     ·rw[aG w];have C:P<=P+(RT-P)/2:=⋯
      have D:P+(RT-P)/2<RT:=⋯
      generalize P+(RT-P)/2=mid at C D ⊢;refine a_ (ask mid ⋯ _ ?_);dsimp only;cases s:cA M left n bG R7 mid with
      |true=>
       rw[aD rfl];exact a8 ⟨rfl,rfl,mid+1,RT,rfl,⋯,A,λa I=>mono a mid ⋯ ⋯ s,l,⋯⟩
      |false=>
       rw[aG c4];refine a8 ⟨rfl,rfl,P,mid,rfl,⋯,⋯,k,λa g e=>?_,⋯⟩;cases x:cA M left n bG R7 a with
       |false=>rfl
       |true=>rw[mono mid a g e x]at s;cases s
    ·rintro p m RV ⟨o,q,P,RT,rfl,t,A,k,l,z⟩;rw[o,q];dsimp only;have c:P=RT:=⋯
     subst c;exact a8 (d P A k l)
   ·rw[aG F];refine a_ (ask (b+j) ⋯ _ ?_);dsimp only;cases s:cA M left n bG R7 (b+j) with
    |true=>
     simp only[pg,gE,fl];exact a8 ⟨rfl,rfl,j,2*j+1,rfl,⋯,⋯,⋯,s⟩
    |false=>
     simp only[Bool.not_false,ia];apply a8;dsimp only;have y:=kC last j t k l (.inr s);apply a_;apply fu;refine f_ (λf p m RV=>m=Y/\RV=h/\∃P RT,p=(V,P,RT)/\P<=RT/\RT<=i/\(∀a,a<P->cA M left n bG R7 a=aa)/\(∀a,RT<=a->a<i->cA M left n bG R7 a=ay)/\RT-P<=i-f) ?_ _ 0 _ _ _ ?_ ⟨rfl,rfl,_,_,rfl,y⟩
     ·rintro f p m RV ⟨o,q,P,RT,rfl,t,A,k,l,z⟩;rw[o,q];dsimp only;by_cases w:P >= RT
      ·rw[aD w];apply a8;dsimp only;have c:P=RT:=⋯
       subst c;exact a8 (d P A k l)
      ·rw[aG w];have C:P<=P+(RT-P)/2:=⋯
       have D:P+(RT-P)/2<RT:=⋯
       generalize P+(RT-P)/2=mid at C D ⊢;refine a_ (ask mid ⋯ _ ?_);dsimp only;cases s:cA M left n bG R7 mid with
       |true=>
        rw[aD rfl];exact a8 ⟨rfl,rfl,mid+1,RT,rfl,⋯,A,λa I=>mono a mid ⋯ ⋯ s,l,⋯⟩
       |false=>
        rw[aG c4];refine a8 ⟨rfl,rfl,P,mid,rfl,⋯,⋯,k,λa g e=>?_,⋯⟩;cases x:cA M left n bG R7 a with
        |false=>rfl
        |true=>rw[mono mid a g e x]at s;cases s
     ·rintro p m RV ⟨o,q,P,RT,rfl,t,A,k,l,z⟩;rw[o,q];dsimp only;have c:P=RT:=⋯
      subst c;exact a8 (d P A k l)
  ·rintro p m RV ⟨o,q,last,j,rfl,t,A,k,l⟩;rw[o,q];dsimp only;have y:=kC last j t k l (.inl ⋯);apply a_;apply fu;refine f_ (λf p m RV=>m=Y/\RV=h/\∃P RT,p=(V,P,RT)/\P<=RT/\RT<=i/\(∀a,a<P->cA M left n bG R7 a=aa)/\(∀a,RT<=a->a<i->cA M left n bG R7 a=ay)/\RT-P<=i-f) ?_ _ 0 _ _ _ ?_ ⟨rfl,rfl,_,_,rfl,y⟩
   ·rintro f p m RV ⟨o,q,P,RT,rfl,t,A,k,l,z⟩;rw[o,q];dsimp only;by_cases w:P >= RT
    ·rw[aD w];apply a8;dsimp only;have c:P=RT:=⋯
     subst c;exact a8 (d P A k l)
    ·rw[aG w];have C:P<=P+(RT-P)/2:=⋯
     have D:P+(RT-P)/2<RT:=⋯
     generalize P+(RT-P)/2=mid at C D ⊢;refine a_ (ask mid ⋯ _ ?_);dsimp only;cases s:cA M left n bG R7 mid with
     |true=>
      rw[aD rfl];exact a8 ⟨rfl,rfl,mid+1,RT,rfl,⋯,A,λa I=>mono a mid ⋯ ⋯ s,l,⋯⟩
     |false=>
      rw[aG c4];refine a8 ⟨rfl,rfl,P,mid,rfl,⋯,⋯,k,λa g e=>?_,⋯⟩;cases x:cA M left n bG R7 a with
      |false=>rfl
      |true=>rw[mono mid a g e x]at s;cases s
   ·rintro p m RV ⟨o,q,P,RT,rfl,t,A,k,l,z⟩;rw[o,q];dsimp only;have c:P=RT:=⋯
    subst c;exact a8 (d P A k l)
 |false=>
  rw[aG c4];apply a_;apply fu;have kC:∀last j,last<j->last<=b->cA M left n bG R7 (b-last)=ay->(j >= b+1\/cA M left n bG R7 (b-j)=aa)->
    b+1-min j (b+1)<=b-last/\b-last<=i/\(∀a,a<b+1-min j (b+1)->cA M left n bG R7 a=aa)/\(∀a,b-last<=a->a<i->cA M left n bG R7 a=ay)/\b-last-(b+1-min j (b+1))<=i-0:=λlast j an S1 J E=>by
   refine⟨⋯,⋯,λa RT=>?_,λa t A=>?_,⋯⟩
   ·rcases E with E|E
    ·lia
    ·exact mono a (b-j) ⋯ ⋯ E
   ·cases x:cA M left n bG R7 a with
    |false=>rfl
    |true=>rw[mono (b-last) a ⋯ A x]at J;cases J
  refine f_ (λf p m RV=>m=Y/\RV=h/\∃last j,p=(V,last,j)/\last<j/\f<j/\last<=b/\cA M left n bG R7 (b-last)=ay) ?_ _ 0 _ _ _ ?_ ⟨rfl,rfl,0,1,rfl,⋯,⋯,⋯,T⟩
  ·rintro f p m RV ⟨o,q,last,j,rfl,t,A,k,l⟩;rw[o,q];dsimp only;by_cases F:j >= b+1
   ·rw[aD F];apply a8;dsimp only;have y:=kC last j t k l (.inl F);apply a_;apply fu;refine f_ (λf p m RV=>m=Y/\RV=h/\∃P RT,p=(V,P,RT)/\P<=RT/\RT<=i/\(∀a,a<P->cA M left n bG R7 a=aa)/\(∀a,RT<=a->a<i->cA M left n bG R7 a=ay)/\RT-P<=i-f) ?_ _ 0 _ _ _ ?_ ⟨rfl,rfl,_,_,rfl,y⟩
    ·rintro f p m RV ⟨o,q,P,RT,rfl,t,A,k,l,z⟩;rw[o,q];dsimp only;by_cases w:P >= RT
     ·rw[aD w];apply a8;dsimp only;have c:P=RT:=⋯
      subst c;exact a8 (d P A k l)
     ·rw[aG w];have C:P<=P+(RT-P)/2:=⋯
      have D:P+(RT-P)/2<RT:=⋯
      generalize P+(RT-P)/2=mid at C D ⊢;refine a_ (ask mid ⋯ _ ?_);dsimp only;cases s:cA M left n bG R7 mid with
      |true=>
       rw[aD rfl];exact a8 ⟨rfl,rfl,mid+1,RT,rfl,⋯,A,λa I=>mono a mid ⋯ ⋯ s,l,⋯⟩
      |false=>
       rw[aG c4];refine a8 ⟨rfl,rfl,P,mid,rfl,⋯,⋯,k,λa g e=>?_,⋯⟩;cases x:cA M left n bG R7 a with
       |false=>rfl
       |true=>rw[mono mid a g e x]at s;cases s
    ·rintro p m RV ⟨o,q,P,RT,rfl,t,A,k,l,z⟩;rw[o,q];dsimp only;have c:P=RT:=⋯
     subst c;exact a8 (d P A k l)
   ·rw[aG F];refine a_ (ask (b-j) ⋯ _ ?_);dsimp only;cases s:cA M left n bG R7 (b-j) with
    |false=>
     rw[aG c4];exact a8 ⟨rfl,rfl,j,2*j+1,rfl,⋯,⋯,⋯,s⟩
    |true=>
     rw[aD rfl];apply a8;dsimp only;have y:=kC last j t k l (.inr s);apply a_;apply fu;refine f_ (λf p m RV=>m=Y/\RV=h/\∃P RT,p=(V,P,RT)/\P<=RT/\RT<=i/\(∀a,a<P->cA M left n bG R7 a=aa)/\(∀a,RT<=a->a<i->cA M left n bG R7 a=ay)/\RT-P<=i-f) ?_ _ 0 _ _ _ ?_ ⟨rfl,rfl,_,_,rfl,y⟩
     ·rintro f p m RV ⟨o,q,P,RT,rfl,t,A,k,l,z⟩;rw[o,q];dsimp only;by_cases w:P >= RT
      ·rw[aD w];apply a8;dsimp only;have c:P=RT:=⋯
       subst c;exact a8 (d P A k l)
      ·rw[aG w];have C:P<=P+(RT-P)/2:=⋯
       have D:P+(RT-P)/2<RT:=⋯
       generalize P+(RT-P)/2=mid at C D ⊢;refine a_ (ask mid ⋯ _ ?_);dsimp only;cases s:cA M left n bG R7 mid with
       |true=>
        rw[aD rfl];exact a8 ⟨rfl,rfl,mid+1,RT,rfl,⋯,A,λa I=>mono a mid ⋯ ⋯ s,l,⋯⟩
       |false=>
        rw[aG c4];refine a8 ⟨rfl,rfl,P,mid,rfl,⋯,⋯,k,λa g e=>?_,⋯⟩;cases x:cA M left n bG R7 a with
        |false=>rfl
        |true=>rw[mono mid a g e x]at s;cases s
     ·rintro p m RV ⟨o,q,P,RT,rfl,t,A,k,l,z⟩;rw[o,q];dsimp only;have c:P=RT:=⋯
      subst c;exact a8 (d P A k l)
  ·rintro p m RV ⟨o,q,last,j,rfl,t,A,k,l⟩;rw[o,q];dsimp only;have y:=kC last j t k l (.inl ⋯);apply a_;apply fu;refine f_ (λf p m RV=>m=Y/\RV=h/\∃P RT,p=(V,P,RT)/\P<=RT/\RT<=i/\(∀a,a<P->cA M left n bG R7 a=aa)/\(∀a,RT<=a->a<i->cA M left n bG R7 a=ay)/\RT-P<=i-f) ?_ _ 0 _ _ _ ?_ ⟨rfl,rfl,_,_,rfl,y⟩
   ·rintro f p m RV ⟨o,q,P,RT,rfl,t,A,k,l,z⟩;rw[o,q];dsimp only;by_cases w:P >= RT
    ·rw[aD w];apply a8;dsimp only;have c:P=RT:=⋯
     subst c;exact a8 (d P A k l)
    ·rw[aG w];have C:P<=P+(RT-P)/2:=⋯
     have D:P+(RT-P)/2<RT:=⋯
     generalize P+(RT-P)/2=mid at C D ⊢;refine a_ (ask mid ⋯ _ ?_);dsimp only;cases s:cA M left n bG R7 mid with
     |true=>
      rw[aD rfl];exact a8 ⟨rfl,rfl,mid+1,RT,rfl,⋯,A,λa I=>mono a mid ⋯ ⋯ s,l,⋯⟩
     |false=>
      rw[aG c4];refine a8 ⟨rfl,rfl,P,mid,rfl,⋯,⋯,k,λa g e=>?_,⋯⟩;cases x:cA M left n bG R7 a with
      |false=>rfl
      |true=>rw[mono mid a g e x]at s;cases s
   ·rintro p m RV ⟨o,q,P,RT,rfl,t,A,k,l,z⟩;rw[o,q];dsimp only;have c:P=RT:=⋯
    subst c;exact a8 (d P A k l)
end
section
variable{M:Nat->Int}
def cb(M:Nat->Int)(J:List Nat):Prop:=(J.Pairwise λf D=>M f<=M D)
structure Rb(M:Nat->Int)(l s:List Nat)(k:List Nat)(C E:Nat):Prop where
 perm:k.Perm (l.take C++s.take E)
 aI:cb M (k++l.drop C)
 cJ:cb M (k++s.drop E)
 bG:C+1<l.length
 jJ:E<s.length
variable{J i:List Nat}
def e6:cb M (J++i)↔cb M J/\cb M i/\∀f∈J,∀D∈i,M f<=M D:=DT
def oa(J:List Nat)(a n:Nat):J.take a++(J.drop a).take n=J.take (a+n):=by rw[List.take_add]
variable{l s k:List Nat}{C E:Nat}
def sj(n:Nat)(perm:k.Perm (l.take C++s.take E))(aI:cb M (k++l.drop C))(cJ:cb M (k++s.drop E))(d:∀f∈(l.drop C).take n,∀D∈s.drop E,M f<=M D):
  (k++(l.drop C).take n).Perm (l.take (C+n)++s.take E)/\cb M (k++(l.drop C).take n++l.drop (C+n))/\cb M (k++(l.drop C).take n++s.drop E):=by
 refine⟨?_,?_,?_⟩
 ·rw[<-oa l C n];refine (perm.append_right _).trans ?_;rw[bg,bg];exact dp _ cW
 ·rw[bg,<-mO,eW];exact aI
 ·rw[bg];have b:=e6.mp aI;have c:=e6.mp cJ;refine e6.mpr ⟨b.1,e6.mpr ⟨b.2.1.sublist<|p8 _ _,c.2.1,d⟩,λf e D a=>?_⟩;rcases dJ.mp a with a|a
  ·exact b.2.2 f e D (nO a)
  ·exact c.2.2 f e D a
def yU(n:Nat)(perm:k.Perm (l.take C++s.take E))(aI:cb M (k++l.drop C))(cJ:cb M (k++s.drop E))(d:∀f∈(s.drop E).take n,∀D∈l.drop C,M f<=M D):
  (k++(s.drop E).take n).Perm (l.take C++s.take (E+n))/\cb M (k++(s.drop E).take n++l.drop C)/\cb M (k++(s.drop E).take n++s.drop (E+n)):=by
 have:=sj (l:=s) (s:=l) n (perm.trans cW) cJ aI d;exact⟨this.1.trans cW,this.2.2,this.2.1⟩
variable{a:Nat}
def jd(d:a<J.length):(J.drop a).take 1=[J.getD a 0]:=by
 rw[iK d,ct,dr d];rfl
variable{D:Nat}
def jz(d:D∈J.drop a):∃r,a<=r/\r<J.length/\D=J.getD r 0:=by
 let⟨r,b,c⟩:=mx.mp d;have e:=b;rw[gv]at e;exact⟨a+r,⋯,⋯,by rw[<-c,o9];simp[List.getD,show a+r<J.length by lia]⟩
variable{n:Nat}
def oy(d:D∈(J.drop a).take n):∃r,r<n/\a+r<J.length/\D=J.getD (a+r) 0:=by
 let⟨r,b,c⟩:=mx.mp d;have e:=b;rw[gh,gv]at e;exact⟨r,by omega,by omega,by rw[<-c,sD,o9];simp[List.getD,show a+r<J.length by omega]⟩
def mB(d:cb M J){a r:Nat}(c:a<=r)(b:r<J.length):M (J.getD a 0)<=M (J.getD r 0):=by
 rcases Nat.lt_or_eq_of_le c with e|rfl
 ·have:=nj.mp d a r ⋯ b e;simpa [List.getD,b,show a<J.length by lia] using this
 ·exact lN _
theorem AM(d:cb M (J++i)):cb M i:=(e6.mp d).2.1
def n0{r:Nat}(d:cb M (k++J.drop a))(b:a<=r)(c:r<=n)(e:n<J.length):M (J.getD r 0)<=M (J.getD n 0):=by
 have:=mB (AM d) (a:=r-a) (r:=n-a) ⋯ (by rw[gv];lia);simpa [List.getD,mc,show a+(r-a)=r by lia,show a+(n-a)=n by lia] using this
def gb(M:Nat->Int)(R0:Array ba)(l s:List Nat)(out:Array ba):Prop:=(∃k:List Nat,out=(k.map<|a9 R0).toArray/\k.Perm (l++s)/\cb M k)
variable{R0:Array ba}
def qO(perm:k.Perm (l.take C++s.take E))(aI:cb M (k++l.drop C))(cJ:cb M (k++s.drop E))(a:E=s.length\/C=l.length):
  gb M R0 l s ((k.map<|a9 R0).toArray++(l.map<|a9 R0).toArray.extract C (l.map<|a9 R0).toArray.size++(s.map<|a9 R0).toArray.extract E (s.map<|a9 R0).toArray.size):=by
 refine⟨k++l.drop C++s.drop E,?_,?_,?_⟩
 ·apply jU;simp[iV,y0]
 ·rw[bg];refine (perm.append_right _).trans ?_;have:(l.take C++s.take E++(l.drop C++s.drop E)).Perm ((l.take C++l.drop C)++(s.take E++s.drop E)):=by
   rw[bg,bg];refine dp _ ?_;rw[<-bg,<-bg];exact eo _ cW
  rw[eW,eW]at this;exact this
 ·rcases a with c|c
  ·rw[c,vX,bR];exact aI
  ·rw[c,vX,bR];exact cJ
def sI(perm:k.Perm (l.take C++s.take E))(aI:cb M (k++l.drop C))(cJ:cb M (k++s.drop E))(c:C+1=l.length)(dW:∀f∈s,M f<=M (l.getD (l.length-1) 0)):
  gb M R0 l s ((k.map<|a9 R0).toArray++(s.map<|a9 R0).toArray.extract E (s.map<|a9 R0).toArray.size++(l.map<|a9 R0).toArray.extract C (l.map<|a9 R0).toArray.size):=by
 refine⟨k++s.drop E++l.drop C,?_,?_,?_⟩
 ·apply jU;simp[iV,y0]
 ·rw[bg];refine (perm.append_right _).trans ?_;have:(l.take C++s.take E++(s.drop E++l.drop C)).Perm ((l.take C++l.drop C)++(s.take E++s.drop E)):=by
   rw[bg,bg];refine dp _ ?_;rw[<-bg];exact cW
  rw[eW,eW]at this;exact this
 ·refine e6.mpr ⟨cJ,AM aI,λf a D b=>?_⟩;rcases dJ.mp a with a|a
  ·exact (e6.mp aI).2.2 f a D b
  ·let⟨@r,t,A,rfl⟩:=jz b;have:r=l.length-1:=⋯
   rw[this];exact dW f (lU a)
end
section
variable{R3:bp}{H:a7}{O:bf}{RW:ab->ah->Prop}{Sn:gd}{R0:Array ba}{M:Nat->Int}{v:Nat}{h:ah}
def y_:Array ba->Array ba->StateT bk c8 (Array ba):=(sortPriv% PySem.Builtin.mergeLo)
structure c9(b Y:bk):Prop where
 k:kindOf Y=kindOf b
 a:arrOf Y=arrOf b
 p:g9 Y=g9 b
 f:hs Y=hs b
def c9.refl(Y:bk):c9 Y Y:=⟨rfl,rfl,rfl,rfl⟩
def ho{w Sj:Type}{aA:fX}{i:StateT w c8 Sj}{B a:Sj->w->ah->Prop}{Y:w}{RV:ah}(d:kasC aA O RW i a Y RV)(L:∀g Y RV,a g Y RV->B g Y RV):kasC aA O RW i B Y RV:=
 gT d (λu RV f=>L u.1 u.2 RV f) λ_ W c=>c
variable{J:List Nat}
def fL{a:Nat}(RT:a<J.length){Y:bk}{B:ba->bk->ah->Prop}(d:B (a9 R0<|J.getD a 0) Y h):kasC (aM R3 H) O RW (elem' (J.map<|a9 R0).toArray a) B Y h:=by
 rw[rZ,show ((J.map<|a9 R0).toArray)[a]?=Z (a9 R0<|J.getD a 0) by simp[List.getD,RT]];exact a8 d
def iG(b:∀f∈J,f<v){a:Nat}(RT:a<J.length):J.getD a 0<v:=by
 rw[ct,dr RT];exact b _ (uO RT)
def kQ(J:List Nat)(a:Nat):J.toArray.getD a 0=J.getD a 0:=by simp[Array.getD,List.getD];split<;>simp_all
def yq(c:fv v M (eK R3 H O Sn R0) h){n:Nat}(j:n<v){J:List Nat}(k:∀f∈J,f<v){R7 i b:Nat}(l:R7+i<=J.length)(m:b<i)(mono:∀a r,R7<=a->a<=r->r<R7+i->M (J.getD a 0)<=M (J.getD r 0)){Y:bk}(o:kindOf Y=Sn){B:Option Nat->bk->ah->Prop}(d:∀u,u<=i->(∀a,R7<=a->a<R7+u->M (J.getD a 0)<=M n)->(∀a,R7+u<=a->a<R7+i->M n<M (J.getD a 0))->B (Z u) Y h):
  kasC (aM R3 H) O RW (oT ay (a9 R0 n) (J.map<|a9 R0).toArray R7 i b) B Y h:=by
 rw[<-D7];refine Dw c j (λa RT=>by rw[kQ];exact iG k ⇑RT) ⇑l m (λa r s w p=>?_) o λu q g e=>d u q (λa t A=>?_) (λa t A=>?_)
 ·simp only[cA,kQ,gE,fl,t9,yZ,wV]at p ⊢;have:=mono (R7+a) (R7+r) ⋯ ⋯ ⋯;lia
 ·have:=g (a-R7) ⋯;simp only[cA,kQ,gE,fl,t9,yZ,wV]at this
  rwa [show R7+(a-R7)=a by lia]at this
 ·have:=e (a-R7) ⋯ ⋯;simp only[cA,kQ,gE,fl,Bool.not_eq_false',sq]at this
  rwa [show R7+(a-R7)=a by lia]at this
def yH(c:fv v M (eK R3 H O Sn R0) h){n:Nat}(j:n<v){J:List Nat}(k:∀f∈J,f<v){R7 i b:Nat}(l:R7+i<=J.length)(m:b<i)(mono:∀a r,R7<=a->a<=r->r<R7+i->M (J.getD a 0)<=M (J.getD r 0)){Y:bk}(o:kindOf Y=Sn){B:Option Nat->bk->ah->Prop}(d:∀u,u<=i->(∀a,R7<=a->a<R7+u->M (J.getD a 0)<M n)->(∀a,R7+u<=a->a<R7+i->M n<=M (J.getD a 0))->B (Z u) Y h):
  kasC (aM R3 H) O RW (oT aa (a9 R0 n) (J.map<|a9 R0).toArray R7 i b) B Y h:=by
 rw[<-D7];refine Dw c j (λa RT=>by rw[kQ];exact iG k ⇑RT) ⇑l m (λa r s w p=>?_) o λu q g e=>d u q (λa t A=>?_) (λa t A=>?_)
 ·simp only[cA,kQ,ia,sq]at p ⊢;have:=mono (R7+a) (R7+r) ⋯ ⋯ ⋯;lia
 ·have:=g (a-R7) ⋯;simp only[cA,kQ,ia,sq]at this
  rwa [show R7+(a-R7)=a by lia]at this
 ·have:=e (a-R7) ⋯ ⋯;simp only[cA,kQ,ia,yZ,wV]at this
  rwa [show R7+(a-R7)=a by lia]at this
def oZ(k:List Nat)(D:Nat):(k.map<|a9 R0).toArray.push (a9 R0 D)=((k++[D]).map<|a9 R0).toArray:=by simp
def zo(k J:List Nat)(a n:Nat):(k.map<|a9 R0).toArray++(J.map<|a9 R0).toArray.extract a (a+n)=((k++(J.drop a).take n).map<|a9 R0).toArray:=by
 apply jU;simp[iV,iB,q5]
end
section
variable{R3:bp}{H:a7}{O:bf}{RW:ab->ah->Prop}{Sn:gd}{R0:Array ba}{M:Nat->Int}{v:Nat}{h:ah}
def hp(M:Nat->Int)(R0:Array ba)(l s:List Nat)(out:Array ba)(C E:Nat):Prop:=(∃k:List Nat,out=(k.map<|a9 R0).toArray/\Rb M l s k C E)
variable{w Sj:Type}
def D2{aA:fX}{O:bf}{RW:ab->ah->Prop}{p:Nat->Prop}{b:∀L,Decidable (p L)}{g R4:Nat->StateT w c8 Sj}{B:Sj->w->ah->Prop}{Y:w}{h:ah}(f:Nat->Nat)(a:∀L,g L=R4 (f L))(j:∀L,kasC aA O RW (R4 L) B Y h):∀L,kasC aA O RW (if p L then g L else R4 L) B Y h:=by
 intro L;rw[a];split
 ·exact j _
 ·exact j _
variable{p:Prop}
def sL{aA:fX}{O:bf}{RW:ab->ah->Prop}{i:Decidable p}{b SY:Array ba->Nat->StateT w c8 Sj}{B:Sj->w->ah->Prop}{Y:w}{h:ah}(c e:Array ba->Nat->Prop)(j:∀m a,e m a->kasC aA O RW (SY m a) B Y h)(f:¬ p->∀m a,c m a->e m a)(g:(∀m a,e m a->kasC aA O RW (SY m a) B Y h)->p->∀m a,c m a->kasC aA O RW (b m a) B Y h):∀m a,c m a->kasC aA O RW (if p then b m a else SY m a) B Y h:=λm a o=>
 if d:p then by rw[aD d];exact g j d m a o else by rw[aG d];exact j m a (f d m a o)
def Gg{aA:fX}{O:bf}{RW:ab->ah->Prop}{F:bk->bk}{B:PUnit->bk->ah->Prop}{b Y:bk}{h:ah}(R6:c9 b (F Y))(d:∀a,c9 b a->B ⟨⟩ a h):kasC aA O RW (modify F:StateT bk c8 PUnit) B Y h:=kn (d _ R6)
def qn(M:Nat->Int)(R0:Array ba)(l s:List Nat)(Y:bk)(h:ah): Option (Array ba)×Array ba×Nat×Nat×Nat->bk->ah->Prop:=(λp b RV=>h=RV/\c9 Y b/\∃a o q u L,p=(Z a,o,q,u,L)/\gb M R0 l s a)
def pP(M:Nat->Int)(R0:Array ba)(l s:List Nat)(Y:bk)(h:ah)(f:Nat):Option (Array ba)×Array ba×Nat×Nat×Nat->bk->ah->Prop:=(λp a RV=>h=RV/\c9 Y a/\∃m C E L,p=(V,m,C,E,L)/\hp M R0 l s m C E/\f+1<=C+E)
def j4(M:Nat->Int)(R0:Array ba)(l s:List Nat)(Y:bk)(h:ah)(f:Nat):Option (Array ba)×Array ba×Nat×Nat×Nat×Nat->bk->ah->Prop:=(λp c RV=>h=RV/\c9 Y c/\((∃b o q u ac a,p=(Z b,o,q,u,ac,a)/\gb M R0 l s b)\/∃m C E ac a,p=(V,m,C,E,ac,a)/\hp M R0 l s m C E/\f+2<=C+E))
def pJ(M:Nat->Int)(R0:Array ba)(l s:List Nat)(Y:bk)(h:ah)(f D:Nat):Option (Array ba)×Array ba×Nat×Nat×Nat×Nat->bk->ah->Prop:=(λp a RV=>h=RV/\c9 Y a/\∃m C E ac b,p=(V,m,C,E,ac,b)/\hp M R0 l s m C E/\f+1+D<=C+E)
def iY(M:Nat->Int)(R0:Array ba)(l s:List Nat)(Y:bk)(h:ah)(f:Nat):Option (Array ba)×Array ba×Nat×Nat×Nat×Nat×Nat->bk->ah->Prop:=(λp c RV=>h=RV/\c9 Y c/\((∃b o q u L ac a,p=(Z b,o,q,u,L,ac,a)/\gb M R0 l s b)\/∃m C E L ac a,p=(V,m,C,E,L,ac,a)/\hp M R0 l s m C E/\f+2<=C+E))
def rC(M:Nat->Int)(R0:Array ba)(l s:List Nat)(Y:bk)(h:ah)(f D:Nat):Option (Array ba)×Array ba×Nat×Nat×Nat×Nat×Nat->bk->ah->Prop:=(λp a RV=>h=RV/\c9 Y a/\∃m C E L ac b,p=(V,m,C,E,L,ac,b)/\hp M R0 l s m C E/\f+2<=C+E)
def qn.a{M:Nat->Int}{R0:Array ba}{l s:List Nat}{Y b:bk}{h:ah}{out:Array ba}{o:Array ba}{q u:Nat}{L:Nat}(d:c9 Y b)(i:gb M R0 l s out):qn M R0 l s Y h (Z out,o,q,u,L) b h:=⟨rfl,d,_,_,_,_,_,rfl,i⟩
def pP.k{M:Nat->Int}{R0:Array ba}{l s:List Nat}{Y a:bk}{h:ah}{f:Nat}{m:Array ba}{C E:Nat}{L:Nat}(d:c9 Y a)(r:hp M R0 l s m C E)(c:f+1<=C+E):pP M R0 l s Y h f (V,m,C,E,L) a h:=⟨rfl,d,_,_,_,_,rfl,r,c⟩
def j4.a{M:Nat->Int}{R0:Array ba}{l s:List Nat}{Y b:bk}{h:ah}{f:Nat}{out:Array ba}{o:Array ba}{q u:Nat}{L c:Nat}(d:c9 Y b)(i:gb M R0 l s out):j4 M R0 l s Y h f (Z out,o,q,u,L,c) b h:=⟨rfl,d,.inl ⟨_,_,_,_,_,_,rfl,i⟩⟩
def j4.b{M:Nat->Int}{R0:Array ba}{l s:List Nat}{Y a:bk}{h:ah}{f:Nat}{m:Array ba}{C E:Nat}{L g:Nat}(d:c9 Y a)(r:hp M R0 l s m C E)(c:f+2<=C+E):j4 M R0 l s Y h f (V,m,C,E,L,g) a h:=⟨rfl,d,.inr ⟨_,_,_,_,_,rfl,r,c⟩⟩
def pJ.k{M:Nat->Int}{R0:Array ba}{l s:List Nat}{Y a:bk}{h:ah}{f D:Nat}{m:Array ba}{C E:Nat}{L b:Nat}(d:c9 Y a)(r:hp M R0 l s m C E)(c:f+1+D<=C+E):pJ M R0 l s Y h f D (V,m,C,E,L,b) a h:=⟨rfl,d,_,_,_,_,_,rfl,r,c⟩
def iY.a{M:Nat->Int}{R0:Array ba}{l s:List Nat}{Y b:bk}{h:ah}{f:Nat}{out:Array ba}{o:Array ba}{q u:Nat}{L c e:Nat}(d:c9 Y b)(i:gb M R0 l s out):iY M R0 l s Y h f (Z out,o,q,u,L,c,e) b h:=⟨rfl,d,.inl ⟨_,_,_,_,_,_,_,rfl,i⟩⟩
def iY.b{M:Nat->Int}{R0:Array ba}{l s:List Nat}{Y a:bk}{h:ah}{f:Nat}{m:Array ba}{C E:Nat}{L g i:Nat}(d:c9 Y a)(r:hp M R0 l s m C E)(c:f+2<=C+E):iY M R0 l s Y h f (V,m,C,E,L,g,i) a h:=⟨rfl,d,.inr ⟨_,_,_,_,_,_,rfl,r,c⟩⟩
def rC.k{M:Nat->Int}{R0:Array ba}{l s:List Nat}{Y a:bk}{h:ah}{f D:Nat}{m:Array ba}{C E:Nat}{L b e:Nat}(d:c9 Y a)(r:hp M R0 l s m C E)(c:f+2<=C+E):rC M R0 l s Y h f D (V,m,C,E,L,b,e) a h:=⟨rfl,d,_,_,_,_,_,_,rfl,r,c⟩
def Qx{g e:Nat}(d:g=e):(g==e)=aa:=by simp[d]
def Mt{g e:Nat}(d:¬ g=e):¬ (g==e)=aa:=by simp[d]
def k1{aA:fX}{O:bf}{RW:ab->ah->Prop}{g:Nat}{J:List Nat}{f D:StateT w c8 Sj}{B:Sj->w->ah->Prop}{Y:w}{h:ah}(bL:g=J.length->kasC aA O RW f B Y h)(a:¬ g=J.length->kasC aA O RW D B Y h):kasC aA O RW (if (g==(List.map (a9 R0) J).toArray.size)=aa then f else D) B Y h:=by
 rw[show (List.map (a9 R0) J).toArray.size=J.length by simp];by_cases d:g=J.length
 ·rw[aD (Qx d)];exact bL d
 ·rw[aG (Mt d)];exact a d
def k8{aA:fX}{O:bf}{RW:ab->ah->Prop}{b:Decidable p}{f D:StateT w c8 Sj}{B:Sj->w->ah->Prop}{Y:w}{h:ah}(bL:p->kasC aA O RW f B Y h)(a:¬ p->kasC aA O RW D B Y h):kasC aA O RW (if p then f else D) B Y h:=if d:p then by rw[aD d];exact bL d else by rw[aG d];exact a d
def M6(b:fv v M (eK R3 H O Sn R0) h){n:Nat}(c:n<v){J:List Nat}(i:∀f∈J,f<v){R7:Nat}(l:R7<J.length)(mono:∀a r,R7<=a->a<=r->r<J.length->M (J.getD a 0)<=M (J.getD r 0)){Y:bk}(j:kindOf Y=Sn){B:Option Nat->bk->ah->Prop}(d:∀u,R7+u<=J.length->(∀a,R7<=a->a<R7+u->M (J.getD a 0)<=M n)->(∀a,R7+u<=a->a<J.length->M n<M (J.getD a 0))->B (Z u) Y h):
  kasC (aM R3 H) O RW (oT ay (a9 R0 n) (J.map<|a9 R0).toArray R7 ((J.map<|a9 R0).toArray.size-R7) 0) B Y h:=by
 rw[show (J.map<|a9 R0).toArray.size=J.length by simp];exact yq b c i ⋯ ⋯ (λa r g e p=>mono a r g e ⋯) j λu t A k=>d u ⋯ A λa g e=>k a g ⋯
def QG(b:fv v M (eK R3 H O Sn R0) h){n:Nat}(c:n<v){J:List Nat}(i:∀f∈J,f<v){R7:Nat}(l:R7<J.length)(mono:∀a r,R7<=a->a<=r->r<J.length->M (J.getD a 0)<=M (J.getD r 0)){Y:bk}(j:kindOf Y=Sn){B:Option Nat->bk->ah->Prop}(d:∀u,R7+u<=J.length->(∀a,R7<=a->a<R7+u->M (J.getD a 0)<M n)->(∀a,R7+u<=a->a<J.length->M n<=M (J.getD a 0))->B (Z u) Y h):
  kasC (aM R3 H) O RW (oT aa (a9 R0 n) (J.map<|a9 R0).toArray R7 ((J.map<|a9 R0).toArray.size-R7) 0) B Y h:=by
 rw[show (J.map<|a9 R0).toArray.size=J.length by simp];exact yH b c i ⋯ ⋯ (λa r g e p=>mono a r g e ⋯) j λu t A k=>d u ⋯ A λa g e=>k a g ⋯
def JM(a2:fv v M (eK R3 H O Sn R0) h){l s:List Nat}(bd:∀f∈l,f<v)(be:∀f∈s,f<v)(eq:cb M l)(ev:cb M s)(he:0<l.length)(t:0<s.length)(first:∀f∈l,M (s.getD 0 0)<=M f)(dW:∀f∈s,M f<=M (l.getD (l.length-1) 0)){Y:bk}(ca:kindOf Y=Sn){B:Array ba->bk->ah->Prop}(d:∀out x,gb M R0 l s out->c9 Y x->B out x h):
  kasC (aM R3 H) O RW (y_ (l.map<|a9 R0).toArray (s.map<|a9 R0).toArray) B Y h:=by
 have bi:[s.getD 0 0].Perm (l.take 0++s.take 1):=by
  have:=jd (J:=s) (a:=0) t;simp only[mv]at this;rw[this];exact List.Perm.refl _
 have bm:cb M ([s.getD 0 0]++s.drop 1):=by
  have:=jd (J:=s) (a:=0) t;simp only[mv]at this;rw[<-this,eW];exact ev
 have bn:cb M ([s.getD 0 0]++l.drop 0):=e6.mpr ⟨eY _ _,by rw[mv];exact eq,λf c D q=>by
  rw[cm.mp c];exact first D (by rwa [mv]at q)⟩
 have hf:(List.map (a9 R0) l).toArray.size=l.length:=by simp
 have hm:(List.map (a9 R0) s).toArray.size=s.length:=by simp
 unfold y_;with_unfolding_all refine a_ (nI<|jy ?_);refine a_ (fL t ?_);refine k1 (λcd=>a8<|d _ _ (qO bi bn bm<|.inl cd)<|c9.refl Y) λcd=>?_;refine k1 (λce=>a8<|d _ _ (sI bi bn bm ce dW)<|c9.refl Y) λce=>?_;refine a_ (jj ?_);refine a_ (ho (a:=qn M R0 l s Y h) (fu (f_ (pP M R0 l s Y h) ?step _ 0 _ _ _ ?fin (pP.k (c9.refl Y) ⟨_,rfl,bi,bn,bm,⋯,⋯⟩ ⋯))) ?after)
 case after=>
  rintro p x RV ⟨rfl,R6,ci,m,C,E,L,rfl,U⟩;exact a8 (d _ _ U R6)
 case fin=>
  rintro p x RV ⟨rfl,R6,m,C,E,L,rfl,⟨k,rfl,i⟩,c⟩;have:=i.bG;have:=i.jJ;lia
 case step=>
  rintro f p x RV ⟨rfl,R6,m,C,E,L,rfl,z,c⟩;refine a_ (ho (a:=j4 M R0 l s Y h f)
   (fu (f_ (pJ M R0 l s Y h f) ?ex _ 0 _ _ _ ?fd (pJ.k R6 z ⋯))) ?fn)
  case fd=>
   rintro p x RV ⟨rfl,R6,m,C,E,ac,Q,rfl,z,c⟩;exact j4.b R6 z ⋯
  case ex=>
   rintro D p x RV ⟨rfl,R6,m,C,E,ac,Q,rfl,⟨k,rfl,i⟩,c⟩;have al:=i.bG;have u:=i.jJ;have as:kindOf x=Sn:=R6.k.trans ca;have w:C<l.length:=⋯
   have bA:M (s.getD E 0)<M (l.getD C 0)->(k++[s.getD E 0]).Perm (l.take C++s.take (E+1))/\cb M (k++[s.getD E 0]++l.drop C)/\cb M (k++[s.getD E 0]++s.drop (E+1)):=λam=>by
    have:=yU 1 i.perm i.aI i.cJ (λf c D q=>by
     rw[jd u,cm]at c;let⟨@r,A,R,rfl⟩:=jz q;have:=n0 i.aI (bl _) A R;rw[c];lia)
    rwa [jd u]at this
   have b0:¬ M (s.getD E 0)<M (l.getD C 0)->(k++[l.getD C 0]).Perm (l.take (C+1)++s.take E)/\cb M (k++[l.getD C 0]++l.drop (C+1))/\cb M (k++[l.getD C 0]++s.drop E):=λam=>by
    have:=sj 1 i.perm i.aI i.cJ (λf c D q=>by
     rw[jd w,cm]at c;let⟨@r,A,R,rfl⟩:=jz q;have:=n0 i.cJ (bl _) A R;rw[c];lia)
    rwa [jd w]at this
   refine a_ (fL u<|a_<|fL w<|a_<|rt a2 (iG be u) (iG bd w) as ?_);refine k8 (λam=>?_) λam=>?_
   ·have e:=bA ⇑am;refine a_ (fL u (k1 (λI=>a8 (j4.a R6 (by rw[oZ];exact qO e.1 e.2.1 e.2.2 (.inl I)))) λI=>?_));have N:hp M R0 l s ((k.map<|a9 R0).toArray.push<|a9 R0<|s.getD E 0) C (E+1):=⟨_,oZ _ _,e.1,e.2.1,e.2.2,al,⋯⟩;exact k8 (λ_=>a8 (j4.b R6 N ⋯)) λ_=>a8 (pJ.k R6 N ⋯)
   ·have e:=b0 ⇑am;refine a_ (fL w (k1 (λI=>a8 (j4.a R6 (by rw[oZ];exact sI e.1 e.2.1 e.2.2 I dW))) λI=>?_));have N:hp M R0 l s ((k.map<|a9 R0).toArray.push<|a9 R0<|l.getD C 0) (C+1) E:=⟨_,oZ _ _,e.1,e.2.1,e.2.2,⋯,u⟩;exact k8 (λ_=>a8 (j4.b R6 N ⋯)) λ_=>a8 (pJ.k R6 N ⋯)
  case fn=>
   rintro p x RV ⟨rfl,R6,⟨ci,m,C,E,ac,Q,rfl,U⟩|⟨m,C,E,ac,Q,rfl,z,c⟩⟩
   ·exact a8 (qn.a R6 U)
   ·refine a_ (nI<|jy ?_);refine a_ (ho (a:=iY M R0 l s Y h f)
     (fu (f_ (rC M R0 l s Y h f) ?fr _ 0 _ _ _ ?fin2 (rC.k R6 z ⋯))) ?f0)
    case fin2=>
     rintro p x RV ⟨rfl,R6,m,C,E,L,ac,Q,rfl,z,c⟩;exact iY.b R6 z ⋯
    case f0=>
     rintro p x RV ⟨rfl,R6,⟨ci,m,C,E,L,ac,Q,rfl,U⟩|⟨m,C,E,L,ac,Q,rfl,z,c⟩⟩
     ·exact a8 (qn.a R6 U)
     ·refine a_ (kn ?_);exact a8 (pP.k ⟨R6.k,R6.a,R6.p,R6.f⟩ z ⋯)
    case fr=>
     rintro D p x RV ⟨rfl,R6,m,C,E,L,ac,Q,rfl,⟨k,cl,i⟩,c⟩;have al:=i.bG;have u:=i.jJ;dsimp only;revert L;refine D2 (λL=>L-1) ?w ?_
     case w=>exact λL=>rfl
     intro L;refine a_ (Gg (b:=Y) ⟨R6.k,R6.a,R6.p,R6.f⟩ λhw P=>?_);have as:=P.k.trans ca;refine a_ (fL u ?_);refine a_ (M6 a2 (iG be u) bd (show C<l.length by lia) (λa r g e p=>n0 i.aI g e p) as ?_);intro n h0 f4 co;dsimp only;generalize an:m=SG;generalize ap:C=a;have R4:SG=m/\a=C:=⟨an.symm,ap.symm⟩;clear an ap;revert SG a;refine sL (λSG a=>SG=m/\a=C) (λSG a=>hp M R0 l s SG a E/\C<=a/\∀r,a<=r->r<l.length->M (s.getD E 0)<M (l.getD r 0)) ?R5 ?f1 ?f8
     case f1=>
      rintro ga SG a ⟨rfl,rfl⟩;exact⟨⟨k,cl,i⟩,bl _,λr g e=>co r ⋯ e⟩
     case f8=>
      rintro j _ SG a ⟨rfl,rfl⟩;try dsimp only
      have G:=sj n i.perm i.aI i.cJ (λf c D q=>by
       let⟨@r,ge,A,rfl⟩:=oy c;let⟨@gl,bs,S1,rfl⟩:=jz q;have:=f4 (a+r) ⋯ ⋯;have:=n0 i.cJ (bl _) bs S1;lia)
      rw[cl,zo];refine k1 (λI=>a8<|iY.a P<|sI G.1 G.2.1 G.2.2 I dW) λI=>?_;refine k1 (λcr=>a8<|iY.a P<|qO G.1 G.2.1 G.2.2<|.inr cr) λcr=>?_;exact j _ _ ⟨⟨_,rfl,G.1,G.2.1,G.2.2,⋯,u⟩,⋯,λr g e=>co r g e⟩
     case R5=>
      rintro SG a ⟨⟨k,rfl,i⟩,le,go⟩;have al:=i.bG;try dsimp only
      refine a_ (fL u ?_);have SU:=yU 1 i.perm i.aI i.cJ (λf c D q=>by
       rw[jd u,cm]at c;let⟨@r,A,R,rfl⟩:=jz q;have:=go r A R;rw[c];lia)
      rw[jd u]at SU;rw[oZ];refine k1 (λcs=>a8<|iY.a P<|qO SU.1 SU.2.1 SU.2.2<|.inl cs) λcs=>?_;have w:a<l.length:=⋯
      refine a_ (fL w ?_);refine a_ (QG a2 (iG bd w) be (show E+1<s.length by lia) (λa r g e p=>n0 SU.2.2 g e p) as ?_);intro gt ii g1 db;dsimp only;generalize k++[s.getD E 0]=bv at *;generalize im:E+1=a1 at *;generalize an:(List.map (a9 R0) bv).toArray=SG;generalize ap:a1=r;have R4:SG=(List.map (a9 R0) bv).toArray/\r=a1:=⟨an.symm,ap.symm⟩;clear an ap;revert SG r;refine sL (λSG r=>SG=(List.map (a9 R0) bv).toArray/\r=a1) (λSG r=>hp M R0 l s SG a r/\a1<=r/\∀y,r<=y->y<s.length->M (l.getD a 0)<=M (s.getD y 0)) ?Sf ?f2 ?g2
      case f2=>
       rintro ga SG r ⟨rfl,rfl⟩;exact⟨⟨_,rfl,SU.1,SU.2.1,SU.2.2,al,⋯⟩,bl _,λy g e=>db y ⋯ e⟩
      case g2=>
       rintro j _ SG r ⟨rfl,rfl⟩;try dsimp only
       have T:=yU gt SU.1 SU.2.1 SU.2.2 (λf c D q=>by
        let⟨@y,ge,A,rfl⟩:=oy c;let⟨@gl,bs,S1,rfl⟩:=jz q;have:=g1 (r+y) ⋯ ⋯;have:=n0 SU.2.1 (bl _) bs S1;lia)
       rw[zo];refine k1 (λds=>a8<|iY.a P<|qO T.1 T.2.1 T.2.2<|.inl ds) λds=>?_;exact j _ _ ⟨⟨_,rfl,T.1,T.2.1,T.2.2,al,⋯⟩,⋯,λy g e=>db y g e⟩
      case Sf=>
       rintro SG r ⟨⟨k,rfl,i⟩,l0,g3⟩;have hd:=i.jJ;try dsimp only
       refine a_ (fL w ?_);have S:=sj 1 i.perm i.aI i.cJ (λf c D q=>by
        rw[jd w,cm]at c;let⟨@y,A,R,rfl⟩:=jz q;rw[c];exact g3 y A R)
       rw[jd w]at S;rw[oZ];refine k1 (λdL=>a8<|iY.a P<|sI S.1 S.2.1 S.2.2 dL dW) λdL=>?_;have N:hp M R0 l s ((k++[l.getD a 0]).map<|a9 R0).toArray (a+1) r:=⟨_,rfl,S.1,S.2.1,S.2.2,⋯,hd⟩;exact k8 (λ_=>a8 (iY.b P N ⋯)) λ_=>a8 (rC.k P N ⋯)
end
section
variable{R3:bp}{H:a7}{O:bf}{RW:ab->ah->Prop}{Sn:gd}{R0:Array ba}{M:Nat->Int}{v:Nat}{h:ah}
def E5:Array ba->Array ba->StateT bk c8 (Array ba):=(sortPriv% PySem.Builtin.mergeHi)
variable{J:List Nat}{a r:Nat}
def xC(b:a<=r)(d:r<=J.length):J.drop a=(J.take r).drop a++J.drop r:=by
 have c:J.drop a=(J.take r++J.drop r).drop a:=by rw[eW]
 rw[c,List.drop_append_of_le_length (by rw[gh];lia)]
def Nw(b:a<=r):J.take a++(J.take r).drop a=J.take r:=by
 have:=eW a (J.take r)
 rwa [u2,rJ b]at this
variable{l s i:List Nat}{w z:Nat}
def rN(n:Nat)(e:n<=w)(h:w<=l.length)(perm:i.Perm (l.drop w++s.drop z))(aI:cb M (l.take w++i))(cJ:cb M (s.take z++i))(d:∀f∈(l.take w).drop n,∀D∈s.take z,M D<=M f):
  ((l.take w).drop n++i).Perm (l.drop n++s.drop z)/\cb M (l.take n++((l.take w).drop n++i))/\cb M (s.take z++((l.take w).drop n++i)):=by
 refine⟨?_,?_,?_⟩
 ·rw[xC e h,bg];exact dp _ perm
 ·rw[<-bg,Nw e];exact aI
 ·have g:=e6.mp aI;have c:=e6.mp cJ;refine e6.mpr ⟨c.1,e6.mpr ⟨g.1.sublist<|uG _ _,c.2.1,λf b D a=>g.2.2 f (lU b) D a⟩,λf b D a=>?_⟩;rcases dJ.mp a with a|a
  ·exact d D a f b
  ·exact c.2.2 f b D a
def yY(n:Nat)(a:n<=z)(b:z<=s.length)(perm:i.Perm (l.drop w++s.drop z))(aI:cb M (l.take w++i))(cJ:cb M (s.take z++i))(d:∀f∈(s.take z).drop n,∀D∈l.take w,M D<=M f):
  ((s.take z).drop n++i).Perm (l.drop w++s.drop n)/\cb M (l.take w++((s.take z).drop n++i))/\cb M (s.take n++((s.take z).drop n++i)):=by
 have:=rN (l:=s) (s:=l) n a b (perm.trans cW) cJ aI d;exact⟨this.1.trans cW,this.2.2,this.2.1⟩
def k3(b:0<a)(d:a<=J.length):(J.take a).drop (a-1)=[J.getD (a-1) 0]:=by
 rw[q5,show a-(a-1)=1 by lia];exact jd ⋯
variable{D:Nat}
def kH(d:D∈J.take a):∃r,r<a/\r<J.length/\D=J.getD r 0:=by
 have:=oy (a:=0) (n:=a) (D:=D) (J:=J) (by rwa [mv]);let⟨@r,g,e,c⟩:=this;exact⟨r,g,⋯,by rw[c];congr 1;lia⟩
variable{n:Nat}
def zS(d:D∈(J.take n).drop a):∃r,a<=r/\r<n/\r<J.length/\D=J.getD r 0:=by
 rw[q5]at d;let⟨@r,g,e,c⟩:=oy d;exact⟨a+r,⋯,⋯,e,c⟩
def o1(d:cb M (J.take a++i))(b:r<=n)(c:n<a)(e:n<J.length):M (J.getD r 0)<=M (J.getD n 0):=by
 have:=mB (e6.mp d).1 (a:=r) (r:=n) b (by rw[gh];lia);simpa [List.getD,m_,show r<a by lia,c] using this
def pQ(perm:i.Perm (l.drop w++s.drop z))(aI:cb M (l.take w++i))(cJ:cb M (s.take z++i))(a:w=0\/z=0):
  gb M R0 l s ((l.map<|a9 R0).toArray.extract 0 w++(s.map<|a9 R0).toArray.extract 0 z++(i.reverse.map<|a9 R0).toArray.reverse):=by
 refine⟨l.take w++s.take z++i,?_,?_,?_⟩
 ·apply jU;simp[iB]
 ·refine (dp _ perm).trans ?_;have:(l.take w++s.take z++(l.drop w++s.drop z)).Perm ((l.take w++l.drop w)++(s.take z++s.drop z)):=by
   rw[bg,bg];refine dp _ ?_;rw[<-bg,<-bg];exact eo _ cW
  rw[eW,eW]at this;exact this
 ·rcases a with c|c
  ·rw[c,vK,iC];exact cJ
  ·rw[c,vK,bR];exact aI
def rX(perm:i.Perm (l.drop w++s.drop z))(aI:cb M (l.take w++i))(cJ:cb M (s.take z++i))(c:z=1)(first:∀f∈l,M (s.getD 0 0)<=M f):
  gb M R0 l s ((s.map<|a9 R0).toArray.extract 0 z++(l.map<|a9 R0).toArray.extract 0 w++(i.reverse.map<|a9 R0).toArray.reverse):=by
 refine⟨s.take z++l.take w++i,?_,?_,?_⟩
 ·apply jU;simp[iB]
 ·refine (dp _ perm).trans ?_;have:(s.take z++l.take w++(l.drop w++s.drop z)).Perm ((l.take w++l.drop w)++(s.take z++s.drop z)):=by
   rw[bg,<-bg (l.take w),<-bg (l.take w++l.drop w)];rw[<-bg (s.take z)];exact eo _ cW
  rw[eW,eW]at this;exact this
 ·rw[bg];refine e6.mpr ⟨(e6.mp cJ).1,aI,λf b D a=>?_⟩;rcases dJ.mp a with a|a
  ·let⟨@r,t,A,rfl⟩:=kH b;have:r=0:=⋯
   rw[this];exact first D (nO a)
  ·exact (e6.mp cJ).2.2 f b D a
def ob(i:List Nat)(D:Nat):(i.reverse.map<|a9 R0).toArray.push (a9 R0 D)=(([D]++i).reverse.map<|a9 R0).toArray:=by simp
def Fw(i J:List Nat)(a n:Nat):(i.reverse.map<|a9 R0).toArray++((J.map<|a9 R0).toArray.extract a n).reverse=(((J.take n).drop a++i).reverse.map<|a9 R0).toArray:=by
 apply jU;simp[iV,iB,q5]
structure Qv(M:Nat->Int)(l s:List Nat)(i:List Nat)(w z:Nat):Prop where
 perm:i.Perm (l.drop w++s.drop z)
 aI:cb M (l.take w++i)
 cJ:cb M (s.take z++i)
 bG:0<w
 jJ:1<z
 sC:w<=l.length
 r7:z<=s.length
def hv(M:Nat->Int)(R0:Array ba)(l s:List Nat)(out:Array ba)(w z:Nat):Prop:=(∃i:List Nat,out=(i.reverse.map<|a9 R0).toArray/\Qv M l s i w z)
end
section
variable{R3:bp}{H:a7}{O:bf}{RW:ab->ah->Prop}{Sn:gd}{R0:Array ba}{M:Nat->Int}{v:Nat}{h:ah}
def qY(M:Nat->Int)(R0:Array ba)(l s:List Nat)(Y:bk)(h:ah): Option (Array ba)×Nat×Nat×Array ba×Nat->bk->ah->Prop:=(λp b RV=>h=RV/\c9 Y b/\∃a o q u L,p=(Z a,o,q,u,L)/\gb M R0 l s a)
def p0(M:Nat->Int)(R0:Array ba)(l s:List Nat)(Y:bk)(h:ah)(f:Nat):Option (Array ba)×Nat×Nat×Array ba×Nat->bk->ah->Prop:=(λp a RV=>h=RV/\c9 Y a/\∃w z m L,p=(V,w,z,m,L)/\hv M R0 l s m w z/\w+z+f+1<=l.length+s.length)
def kj(M:Nat->Int)(R0:Array ba)(l s:List Nat)(Y:bk)(h:ah)(f:Nat):Option (Array ba)×Nat×Nat×Array ba×Nat×Nat->bk->ah->Prop:=(λp c RV=>h=RV/\c9 Y c/\((∃b o q u ac a,p=(Z b,o,q,u,ac,a)/\gb M R0 l s b)\/∃w z m ac a,p=(V,w,z,m,ac,a)/\hv M R0 l s m w z/\w+z+f+2<=l.length+s.length))
def om(M:Nat->Int)(R0:Array ba)(l s:List Nat)(Y:bk)(h:ah)(f D:Nat):Option (Array ba)×Nat×Nat×Array ba×Nat×Nat->bk->ah->Prop:=(λp a RV=>h=RV/\c9 Y a/\∃w z m ac b,p=(V,w,z,m,ac,b)/\hv M R0 l s m w z/\w+z+f+1+D<=l.length+s.length)
def i1(M:Nat->Int)(R0:Array ba)(l s:List Nat)(Y:bk)(h:ah)(f:Nat):Option (Array ba)×Nat×Nat×Array ba×Nat×Nat×Nat->bk->ah->Prop:=(λp c RV=>h=RV/\c9 Y c/\((∃b o q u L ac a,p=(Z b,o,q,u,L,ac,a)/\gb M R0 l s b)\/∃w z m L ac a,p=(V,w,z,m,L,ac,a)/\hv M R0 l s m w z/\w+z+f+2<=l.length+s.length))
def q6(M:Nat->Int)(R0:Array ba)(l s:List Nat)(Y:bk)(h:ah)(f D:Nat):Option (Array ba)×Nat×Nat×Array ba×Nat×Nat×Nat->bk->ah->Prop:=(λp a RV=>h=RV/\c9 Y a/\∃w z m L ac b,p=(V,w,z,m,L,ac,b)/\hv M R0 l s m w z/\w+z+f+2<=l.length+s.length)
def qY.a{M:Nat->Int}{R0:Array ba}{l s:List Nat}{Y b:bk}{h:ah}{out:Array ba}{o q:Nat}{u:Array ba}{L:Nat}(d:c9 Y b)(i:gb M R0 l s out):qY M R0 l s Y h (Z out,o,q,u,L) b h:=⟨rfl,d,_,_,_,_,_,rfl,i⟩
def p0.k{M:Nat->Int}{R0:Array ba}{l s:List Nat}{Y a:bk}{h:ah}{f:Nat}{w z:Nat}{m:Array ba}{L:Nat}(d:c9 Y a)(r:hv M R0 l s m w z)(c:w+z+f+1<=l.length+s.length):p0 M R0 l s Y h f (V,w,z,m,L) a h:=⟨rfl,d,_,_,_,_,rfl,r,c⟩
def kj.a{M:Nat->Int}{R0:Array ba}{l s:List Nat}{Y b:bk}{h:ah}{f:Nat}{out:Array ba}{o q:Nat}{u:Array ba}{L c:Nat}(d:c9 Y b)(i:gb M R0 l s out):kj M R0 l s Y h f (Z out,o,q,u,L,c) b h:=⟨rfl,d,.inl ⟨_,_,_,_,_,_,rfl,i⟩⟩
def kj.b{M:Nat->Int}{R0:Array ba}{l s:List Nat}{Y a:bk}{h:ah}{f:Nat}{w z:Nat}{m:Array ba}{L g:Nat}(d:c9 Y a)(r:hv M R0 l s m w z)(c:w+z+f+2<=l.length+s.length):kj M R0 l s Y h f (V,w,z,m,L,g) a h:=⟨rfl,d,.inr ⟨_,_,_,_,_,rfl,r,c⟩⟩
def om.k{M:Nat->Int}{R0:Array ba}{l s:List Nat}{Y a:bk}{h:ah}{f D:Nat}{w z:Nat}{m:Array ba}{L b:Nat}(d:c9 Y a)(r:hv M R0 l s m w z)(c:w+z+f+1+D<=l.length+s.length):om M R0 l s Y h f D (V,w,z,m,L,b) a h:=⟨rfl,d,_,_,_,_,_,rfl,r,c⟩
def i1.a{M:Nat->Int}{R0:Array ba}{l s:List Nat}{Y b:bk}{h:ah}{f:Nat}{out:Array ba}{o q:Nat}{u:Array ba}{L c e:Nat}(d:c9 Y b)(i:gb M R0 l s out):i1 M R0 l s Y h f (Z out,o,q,u,L,c,e) b h:=⟨rfl,d,.inl ⟨_,_,_,_,_,_,_,rfl,i⟩⟩
def i1.b{M:Nat->Int}{R0:Array ba}{l s:List Nat}{Y a:bk}{h:ah}{f:Nat}{w z:Nat}{m:Array ba}{L g i:Nat}(d:c9 Y a)(r:hv M R0 l s m w z)(c:w+z+f+2<=l.length+s.length):i1 M R0 l s Y h f (V,w,z,m,L,g,i) a h:=⟨rfl,d,.inr ⟨_,_,_,_,_,_,rfl,r,c⟩⟩
def q6.k{M:Nat->Int}{R0:Array ba}{l s:List Nat}{Y a:bk}{h:ah}{f D:Nat}{w z:Nat}{m:Array ba}{L b e:Nat}(d:c9 Y a)(r:hv M R0 l s m w z)(c:w+z+f+2<=l.length+s.length):q6 M R0 l s Y h f D (V,w,z,m,L,b,e) a h:=⟨rfl,d,_,_,_,_,_,_,rfl,r,c⟩
def kS{aA:fX}{O:bf}{RW:ab->ah->Prop}{w Sj:Type}{g e:Nat}{f D:StateT w c8 Sj}{B:Sj->w->ah->Prop}{Y:w}{h:ah}(bL:g=e->kasC aA O RW f B Y h)(a:¬ g=e->kasC aA O RW D B Y h):kasC aA O RW (if (g==e)=aa then f else D) B Y h:=k8 (λd=>bL ⇑d) λd=>a ⇑d
def HI(bn:fv v M (eK R3 H O Sn R0) h){l s:List Nat}(bs:∀f∈l,f<v)(bv:∀f∈s,f<v)(f8:cb M l)(ga:cb M s)(ge:0<l.length)(t:0<s.length)(first:∀f∈l,M (s.getD 0 0)<=M f)(dW:∀f∈s,M f<=M (l.getD (l.length-1) 0)){Y:bk}(db:kindOf Y=Sn){B:Array ba->bk->ah->Prop}(d:∀out u,gb M R0 l s out->c9 Y u->B out u h):
  kasC (aM R3 H) O RW (E5 (l.map<|a9 R0).toArray (s.map<|a9 R0).toArray) B Y h:=by
 have be:(List.map (a9 R0) l).toArray.size=l.length:=by simp
 have bi:(List.map (a9 R0) s).toArray.size=s.length:=by simp
 have ca:=k3 ge (bl _);rw[q4]at ca;have cd:[l.getD (l.length-1) 0].Perm (l.drop (l.length-1)++s.drop s.length):=by
  rw[ca,vX];exact List.Perm.refl _
 have ce:cb M (l.take (l.length-1)++[l.getD (l.length-1) 0]):=by
  rw[<-ca,eW];exact f8
 have ch:cb M (s.take s.length++[l.getD (l.length-1) 0]):=e6.mpr ⟨by rw[q4];exact ga,eY _ _,λf c D q=>by
  rw[cm.mp q];exact dW f (by rwa [q4]at c)⟩
 unfold E5;with_unfolding_all refine a_ (nI<|jy ?_);refine a_ (fL (show (List.map (a9 R0) l).toArray.size-1<l.length by lia) ?_);refine kS (λci=>a8 (d _ _ (by rw[be]at ci;rw[be,bi];exact pQ cd ce ch (.inl ci))<|c9.refl Y)) λci=>?_;refine kS (λcl=>a8 (d _ _ (by rw[bi]at cl;rw[be,bi];exact rX cd ce ch cl first)<|c9.refl Y)) λcl=>?_;refine a_ (jj ?_);refine a_ (ho (a:=qY M R0 l s Y h) (fu (f_ (p0 M R0 l s Y h) ?step _ 0 _ _ _ ?fin (p0.k (c9.refl Y) (by rw[be,bi];exact⟨_,rfl,cd,ce,ch,⋯,⋯,⋯,⋯⟩) ⋯))) ?after)
 case after=>
  rintro p u RV ⟨rfl,R6,dL,m,C,E,L,rfl,an⟩;exact a8 (d _ _ an R6)
 case fin=>
  rintro p u RV ⟨rfl,R6,w,z,m,L,rfl,⟨k,rfl,i⟩,c⟩;have:=i.bG;have:=i.jJ;lia
 case step=>
  rintro f p u RV ⟨rfl,R6,w,z,m,L,rfl,A,c⟩;refine a_ (ho (a:=kj M R0 l s Y h f)
   (fu (f_ (om M R0 l s Y h f) ?gl _ 0 _ _ _ ?go (om.k R6 A ⋯))) ?gt)
  case go=>
   rintro p u RV ⟨rfl,R6,w,z,m,ac,S,rfl,A,c⟩;exact kj.b R6 A ⋯
  case gl=>
   rintro D p u RV ⟨rfl,R6,w,z,m,ac,S,rfl,⟨k,rfl,i⟩,c⟩;have G:=i.bG;have co:=i.jJ;have x:=i.sC;have I:=i.r7;have bm:kindOf u=Sn:=R6.k.trans db;have J:w-1<l.length:=⋯
   have T:z-1<s.length:=⋯
   have bA:M (s.getD (z-1) 0)<M (l.getD (w-1) 0)->_:=λap=>by
    have:=rN (w-1) ⋯ x i.perm i.aI i.cJ (λf c D q=>by
     rw[k3 G x,cm]at c;let⟨@r,U,as,rfl⟩:=kH q;have:=o1 i.cJ (show r<=z-1 by lia) ⋯ ⋯;rw[c];lia)
    rw[k3 G x]at this;exact this
   have b0:¬ M (s.getD (z-1) 0)<M (l.getD (w-1) 0)->_:=λap=>by
    have:=yY (z-1) ⋯ I i.perm i.aI i.cJ (λf c D q=>by
     rw[k3 ⋯ I,cm]at c;let⟨@r,U,as,rfl⟩:=kH q;have:=o1 i.aI (show r<=w-1 by lia) ⋯ ⋯;rw[c];lia)
    rw[k3 ⋯ I]at this;exact this
   refine a_ (fL T<|a_<|fL J<|a_<|rt bn (iG bv T) (iG bs J) bm ?_);refine k8 (λap=>?_) λap=>?_
   ·have e:=bA ⇑ap;refine a_ (fL J (kS (λP=>a8 (kj.a R6 (by rw[ob];exact pQ e.1 e.2.1 e.2.2 (.inl P)))) λP=>?_));have Q:hv M R0 l s ((k.reverse.map<|a9 R0).toArray.push<|a9 R0<|l.getD (w-1) 0) (w-1) z:=⟨_,ob _ _,e.1,e.2.1,e.2.2,⋯,co,⋯,I⟩;exact k8 (λ_=>a8 (kj.b R6 Q ⋯)) λ_=>a8 (om.k R6 Q ⋯)
   ·have e:=b0 ⇑ap;refine a_ (fL T (kS (λP=>a8 (kj.a R6 (by rw[ob];exact rX e.1 e.2.1 e.2.2 P first))) λP=>?_));have Q:hv M R0 l s ((k.reverse.map<|a9 R0).toArray.push<|a9 R0<|s.getD (z-1) 0) w (z-1):=⟨_,ob _ _,e.1,e.2.1,e.2.2,G,⋯,x,⋯⟩;exact k8 (λ_=>a8 (kj.b R6 Q ⋯)) λ_=>a8 (om.k R6 Q ⋯)
  case gt=>
   rintro p u RV ⟨rfl,R6,⟨dL,m,C,E,ac,S,rfl,an⟩|⟨w,z,m,ac,S,rfl,A,c⟩⟩
   ·exact a8 (qY.a R6 an)
   ·refine a_ (nI<|jy ?_);refine a_ (ho (a:=i1 M R0 l s Y h f)
     (fu (f_ (q6 M R0 l s Y h f) ?g1 _ 0 _ _ _ ?fin2 (q6.k R6 A ⋯))) ?g2)
    case fin2=>
     rintro p u RV ⟨rfl,R6,w,z,m,L,ac,S,rfl,A,c⟩;exact i1.b R6 A ⋯
    case g2=>
     rintro p u RV ⟨rfl,R6,⟨dL,m,C,E,L,ac,S,rfl,an⟩|⟨w,z,m,L,ac,S,rfl,A,c⟩⟩
     ·exact a8 (qY.a R6 an)
     ·refine a_ (kn ?_);exact a8 (p0.k ⟨R6.k,R6.a,R6.p,R6.f⟩ A ⋯)
    case g1=>
     rintro D p u RV ⟨rfl,R6,w,z,m,L,ac,S,rfl,⟨k,eq,i⟩,c⟩;have G:=i.bG;have co:=i.jJ;have x:=i.sC;have I:=i.r7;have T:z-1<s.length:=⋯
     dsimp only;revert L;refine D2 (λL=>L-1) ?J ?_
     case J=>exact λL=>rfl
     intro L;refine a_ (Gg (b:=Y) ⟨R6.k,R6.a,R6.p,R6.f⟩ λit R=>?_);have bm:=R.k.trans db;refine a_ (fL T ?_);refine a_ (yq bn (iG bv T) bs (R7:=0) (i:=w) (b:=w-1) ⋯ ⋯ (λa r g e p=>o1 i.aI e ⋯ ⋯) bm ?_);intro n jp ev hd;dsimp only;generalize kt:w-n=kw;generalize a1:m=SG;generalize a2:w=a;have R4:SG=m/\a=w:=⟨a1.symm,a2.symm⟩;clear a1 a2;revert SG a;refine sL (λSG a=>SG=m/\a=w) (λSG a=>hv M R0 l s SG a z/\a<=w/\∀r,r<a->M (l.getD r 0)<=M (s.getD (z-1) 0)) ?R5 ?f1 ?he
     case f1=>
      rintro hf SG a ⟨rfl,rfl⟩;exact⟨⟨k,eq,i⟩,bl _,λr g=>ev r ⋯ ⋯⟩
     case he=>
      rintro j _ SG a ⟨rfl,rfl⟩;try dsimp only
      have am:=rN n ⋯ x i.perm i.aI i.cJ (λf c D q=>by
       let⟨@r,hm,U,as,rfl⟩:=zS c;let⟨@cr,hw,S1,rfl⟩:=kH q;have:=hd r ⋯ ⋯;have:=o1 i.cJ (show cr<=z-1 by lia) ⋯ ⋯;lia)
      rw[eq,Fw];refine kS (λP=>a8<|i1.a R<|pQ am.1 am.2.1 am.2.2<|.inl P) λP=>?_;exact j _ _ ⟨⟨_,rfl,am.1,am.2.1,am.2.2,⋯,co,⋯,I⟩,⋯,λr g=>ev r ⋯ ⋯⟩
     case R5=>
      rintro SG a ⟨⟨k,rfl,i⟩,le,h0⟩;have G:=i.bG;have x:=i.sC;have J:a-1<l.length:=⋯
      try dsimp only
      refine a_ (fL T ?_);have SU:=yY (z-1) ⋯ I i.perm i.aI i.cJ (λf c D q=>by
       rw[k3 ⋯ I,cm]at c;let⟨@r,U,as,rfl⟩:=kH q;rw[c];exact h0 r U)
      rw[k3 ⋯ I]at SU;rw[ob];refine kS (λex=>a8<|i1.a R<|rX SU.1 SU.2.1 SU.2.2 ex first) λex=>?_;refine a_ (fL J ?_);refine a_ (yH bn (iG bs J) bv (R7:=0) (i:=z-1) (b:=z-1-1) ⋯ ⋯ (λa r g e p=>o1 SU.2.2 e ⋯ ⋯) bm ?_);intro fd lc fn ii;dsimp only;generalize [s.getD (z-1) 0]++k=cs at *;generalize lf:z-1=bd at *;generalize li:bd-fd=fb;generalize a1:(List.map (a9 R0) cs.reverse).toArray=SG;generalize a2:bd=r;have R4:SG=(List.map (a9 R0) cs.reverse).toArray/\r=bd:=⟨a1.symm,a2.symm⟩;clear a1 a2;revert SG r;refine sL (λSG r=>SG=(List.map (a9 R0) cs.reverse).toArray/\r=bd) (λSG r=>hv M R0 l s SG a r/\r<=bd/\∀y,y<r->M (s.getD y 0)<M (l.getD (a-1) 0)) ?Sf ?f2 ?im
      case f2=>
       rintro hf SG r ⟨rfl,rfl⟩;exact⟨⟨_,rfl,SU.1,SU.2.1,SU.2.2,G,⋯,x,⋯⟩,bl _,λy g=>fn y ⋯ ⋯⟩
      case im=>
       rintro j _ SG r ⟨rfl,rfl⟩;try dsimp only
       have N:=yY fd ⋯ (show r<=s.length by lia) SU.1 SU.2.1 SU.2.2 (λf c D q=>by
        let⟨@y,hm,U,as,rfl⟩:=zS c;let⟨@cr,hw,S1,rfl⟩:=kH q;have:=ii y ⋯ ⋯;have:=o1 SU.2.1 (show cr<=a-1 by lia) ⋯ ⋯;lia)
       rw[Fw];refine kS (λfr=>a8<|i1.a R<|rX N.1 N.2.1 N.2.2 fr first) λfr=>?_;refine kS (λf0=>a8<|i1.a R<|pQ N.1 N.2.1 N.2.2<|.inr f0) λf0=>?_;exact j _ _ ⟨⟨_,rfl,N.1,N.2.1,N.2.2,G,⋯,x,⋯⟩,⋯,λy g=>fn y ⋯ ⋯⟩
      case Sf=>
       rintro SG r ⟨⟨k,rfl,i⟩,l0,io⟩;try dsimp only
       refine a_ (fL J ?_);have al:=rN (a-1) ⋯ x i.perm i.aI i.cJ (λf c D q=>by
        rw[k3 G x,cm]at c;let⟨@y,U,as,rfl⟩:=kH q;have:=io y U;rw[c];lia)
       rw[k3 G x]at al;rw[ob];refine kS (λf4=>a8<|i1.a R<|pQ al.1 al.2.1 al.2.2<|.inl f4) λf4=>?_;have Q:hv M R0 l s (([l.getD (a-1) 0]++k).reverse.map<|a9 R0).toArray (a-1) r:=⟨_,rfl,al.1,al.2.1,al.2.2,⋯,i.jJ,⋯,i.r7⟩;exact k8 (λ_=>a8 (i1.b R Q ⋯)) λ_=>a8 (q6.k R Q ⋯)
def HQ{w:Type}{aA:fX}{B:PUnit->w->ah->Prop}{Y a:w}{h:ah}(d:B ⟨⟩ a h):kasC aA O RW (set a:StateT w c8 PUnit) B Y h:=by
 unfold kasC;rw[StateT.run_set];exact aR d
theorem vq{Sj:Type}:∀(J:List Sj) (b:List Sj) (q e S_:Nat),q+J.length<=b.length->q=S_+e->((J.zipIdx e).foldl (λ(g:Array Sj) (f:Sj×Nat)=>g.setIfInBounds (S_+f.2) f.1) b.toArray)=(b.take q++J++b.drop (q+J.length)).toArray
 |[],b,q,e,S_,d,c=>by simp
 |f::J,b,q,e,S_,d,c=>by
  rw[dA]at d;rw[List.zipIdx_cons,lh];dsimp only;rw[<-c,Dh,vq J (b.set q f) (q+1) (e+1) S_ (by rw[uK];lia) ⋯];congr 1;have h:(b.set q f).take (q+1)=b.take q++[f]:=by
   apply oY;intro a;rw[m_,List.getElem?_append,gh,m_,Bt];by_cases t:a<q
   ·rw[aD ⋯,aG ⋯,aD ⋯,aD t]
   ·by_cases A:a=q
    ·subst A;rw[aD ⋯,aD rfl,aD ⋯,aG ⋯];simp[show a-min a b.length=0 by lia]
    ·rw[aG ⋯,aG ⋯];rw[qL];rw[mD];lia
  have i:(b.set q f).drop (q+1+J.length)=b.drop (q+(J.length+1)):=by
   apply oY;intro a;rw[mc,mc,Bt,aG ⋯];congr 1;lia
  rw[h,i,dA,bg,bg,bg];rfl
def FL{b c k:List Nat}{n i:Nat}(o:cb M b)(p:cb M c)(u:0<c.length)(v:0<b.length)(t:∀f∈b.take n,M f<=M (c.getD 0 0))(q:∀f∈c.drop i,M (b.getD (b.length-1) 0)<=M f)(j:k.Perm (b.drop n++c.take i))(S6:cb M k):cb M (b.take n++k++c.drop i)/\(b.take n++k++c.drop i).Perm (b++c):=by
 have l:∀D∈c,M (c.getD 0 0)<=M D:=λD e=>by
  let⟨@r,W,m,rfl⟩:=jz (a:=0) (J:=c) (by rwa [mv]);exact mB p (gP _) m
 have s:∀f∈b,M f<=M (b.getD (b.length-1) 0):=λf d=>by
  let⟨@r,W,m,rfl⟩:=jz (a:=0) (J:=b) (by rwa [mv]);exact mB o (by omega) (by omega)
 have g:cb M (b.take n++b.drop n):=by rwa [eW]
 have h:cb M (c.take i++c.drop i):=by rwa [eW]
 have g:=e6.mp g;have h:=e6.mp h;refine⟨e6.mpr ⟨e6.mpr ⟨g.1,S6,λf d D e=>?_⟩,h.2.1,λf d D e=>?_⟩,?_⟩
 ·rcases dJ.mp (j.mem_iff.mp e) with e|e
  ·exact g.2.2 f d D e
  ·exact w4 (t f d) (l D<|nO e)
 ·rcases dJ.mp d with d|d
  ·exact w4 (t f d) (l D<|lU e)
  ·rcases dJ.mp (j.mem_iff.mp d) with d|d
   ·exact w4 (s f<|lU d) (q D e)
   ·exact h.2.2 f d D e
 ·refine (eo _<|dp _ j).trans ?_;rw[<-bg,eW,bg,eW]
def JO(P:fv v M (eK R3 H O Sn R0) h){b:List Nat}(A:∀f∈b,f<v){a aI w z be ex:Nat}{Y:bk}(u:PyProof.Rows.kindOf Y=Sn)(fd:arrOf Y=(b.map<|a9 R0).toArray)(Q:hs Y=V)(RT:(g9 Y)[a]?=Z (aI,w,be))(G:(g9 Y)[a+1]?=Z (aI+w,z,ex))(fn:0<w)(bi:0<z)(ge:aI+w+z<=b.length)(x:cb M ((b.drop aI).take w))(y:cb M ((b.drop<|aI+w).take z)){B:Bool->bk->ah->Prop}(d:∀mid m,PyProof.Rows.kindOf m=Sn->hs m=V->g9 m=((g9 Y).setIfInBounds a (aI,w+z,be)).eraseIdxIfInBounds (a+1)->mid.Perm ((b.drop aI).take<|w+z)->cb M mid->
   arrOf m=((b.take aI++mid++b.drop (aI+(w+z))).map<|a9 R0).toArray->B aa m h):
  kasC (aM R3 H) O RW (ta a) B Y h:=by
 have bm:((b.drop aI).take w).length=w:=by rw[gh,gv];lia
 have fr:((b.drop<|aI+w).take z).length=z:=by rw[gh,gv];lia
 have C:∀r,r<w->((b.drop aI).take w).getD r 0=b.getD (aI+r) 0:=λr G=>by simp[List.getD,m_,mc,G]
 have E:∀r,r<z->((b.drop<|aI+w).take z).getD r 0=b.getD (aI+w+r) 0:=λr G=>by simp[List.getD,m_,mc,G]
 have R:(b.drop aI).take w++(b.drop<|aI+w).take z=(b.drop aI).take (w+z):=by rw[<-mO,oa]
 have bn:b.take aI++(b.drop aI).take (w+z)++b.drop (aI+(w+z))=b:=by rw[oa,eW]
 have bs:∀a r,aI<=a->a<=r->r<aI+w->M (b.getD a 0)<=M (b.getD r 0):=λa r g e p=>by
  have:=mB x (a:=a-aI) (r:=r-aI) ⋯ ⋯
  rwa [C _ ⋯,C _ ⋯,show aI+(a-aI)=a by lia,show aI+(r-aI)=r by lia]at this
 have bv:∀a r,aI+w<=a->a<=r->r<aI+w+z->M (b.getD a 0)<=M (b.getD r 0):=λa r g e p=>by
  have:=mB y (a:=a-(aI+w)) (r:=r-(aI+w)) ⋯ ⋯
  rwa [E _ ⋯,E _ ⋯,show aI+w+(a-(aI+w))=a by lia,show aI+w+(r-(aI+w))=r by lia]at this
 have S5:∀f∈(b.drop aI).take w,∃r,aI<=r/\r<aI+w/\f=b.getD r 0:=λf l=>by
  let⟨@r,I,q,rfl⟩:=oy l;exact⟨aI+r,⋯,⋯,rfl⟩
 have ca:∀f∈(b.drop<|aI+w).take z,∃r,aI+w<=r/\r<aI+w+z/\f=b.getD r 0:=λf l=>by
  let⟨@r,I,q,rfl⟩:=oy l;exact⟨aI+w+r,⋯,⋯,rfl⟩
 unfold ta;with_unfolding_all refine a_ (jj ?_);simp only[RT,G,fd];refine a_ (HQ ?_);refine a_ (fL (show aI+w<b.length by lia) ?_);refine a_ (yq P (iG A (show aI+w<b.length by lia)) A (R7:=aI) (i:=w) (b:=0) ⋯ fn bs (by exact u) ?_);intro n cd ce f1;dsimp only;by_cases ch:w-n=0
 ·rw[aD ⇑ch];refine a8 (d _ _ (by exact u) (by exact Q) rfl (List.Perm.refl _) ?_ ?_)
  ·rw[<-R];refine e6.mpr ⟨x,y,λf l D S=>?_⟩;let⟨@r,q,f2,rfl⟩:=S5 f l;let⟨@T,ci,U,rfl⟩:=ca D S;have:=ce r q ⋯;have:=bv (aI+w) T ⋯ ci U;lia
  ·rw[bn]
 rw[aG ⇑ch];rw[show aI+n+(w-n)-1=aI+w-1 by lia];refine a_ (fL (show aI+w-1<b.length by lia) ?_);refine a_ (yH P (iG A (show aI+w-1<b.length by lia)) A (R7:=aI+w) (i:=z) (b:=z-1) ⋯ ⋯ bv (by exact u) ?_);intro j al f4 cl;dsimp only;by_cases co:j=0
 ·rw[aD ⇑co];refine a8 (d _ _ (by exact u) (by exact Q) rfl (List.Perm.refl _) ?_ ?_)
  ·rw[<-R];refine e6.mpr ⟨x,y,λf l D S=>?_⟩;let⟨@r,q,f2,rfl⟩:=S5 f l;let⟨@T,ci,U,rfl⟩:=ca D S;have:=cl T ⋯ U;have:=bs r (aI+w-1) q ⋯ ⋯;lia
  ·rw[bn]
 rw[aG ⇑co];have f8:(b.map<|a9 R0).toArray.extract (aI+n) (aI+w)=((((b.drop aI).take w).drop n).map<|a9 R0).toArray:=by
  apply jU;simp only[EM,List.extract_eq_drop_take,iV,iB];rw[q5,mO,show aI+w-(aI+n)=w-n by lia]
 have ga:(b.map<|a9 R0).toArray.extract (aI+w) (aI+w+j)=((((b.drop<|aI+w).take z).take j).map<|a9 R0).toArray:=by
  apply jU;simp only[EM,List.extract_eq_drop_take,iV,iB];rw[u2,rJ al,show aI+w+j-(aI+w)=j by lia]
 rw[f8,ga];have t:∀f∈((b.drop aI).take w).take n,M f<=M (((b.drop<|aI+w).take z).getD 0 0):=λf l=>by
  rw[E 0 bi];let⟨@r,I,q,rfl⟩:=kH l;rw[C r ⋯];exact ce _ ⋯ ⋯
 have cr:∀f∈((b.drop<|aI+w).take z).drop j,M (((b.drop aI).take w).getD (((b.drop aI).take w).length-1) 0)<=M f:=λf l=>by
  rw[bm,C _ ⋯];let⟨@r,I,q,rfl⟩:=jz l;rw[E r ⋯,show aI+(w-1)=aI+w-1 by lia];exact cl _ ⋯ ⋯
 have cs:∀f∈((b.drop aI).take w).drop n,M ((((b.drop<|aI+w).take z).take j).getD 0 0)<=M f:=λf l=>by
  rw[show (((b.drop<|aI+w).take z).take j).getD 0 0=((b.drop<|aI+w).take z).getD 0 0 by simp only[List.getD,m_,aD (show 0<j by lia)],E 0 bi];let⟨@r,I,q,rfl⟩:=jz l;rw[C r ⋯];have:=f1 (aI+r) ⋯ ⋯;rw[B2];lia
 have am:(((b.drop aI).take w).drop n).length=w-n:=by rw[gv,bm]
 have db:(((b.drop<|aI+w).take z).take j).length=j:=by rw[gh,fr];lia
 have ds:∀f∈((b.drop<|aI+w).take z).take j,M f<=M ((((b.drop aI).take w).drop n).getD ((((b.drop aI).take w).drop n).length-1) 0):=λf l=>by
  rw[am,show (((b.drop aI).take w).drop n).getD (w-n-1) 0=((b.drop aI).take w).getD (w-1) 0 by simp only[List.getD,mc,show n+(w-n-1)=w-1 by lia],C _ ⋯,show aI+(w-1)=aI+w-1 by lia];let⟨@r,I,q,rfl⟩:=kH l;rw[E r ⋯];have:=f4 (aI+w+r) ⋯ ⋯;lia
 have dL:∀f∈((b.drop aI).take w).drop n,f<v:=λf l=>A f (lU<|nO<|lU l);have eq:∀f∈((b.drop<|aI+w).take z).take j,f<v:=λf l=>A f (lU<|nO<|nO l);by_cases ev:w-n<=j
 ·rw[aD ev];refine a_ (JM P dL eq (x.sublist<|uG _ _) (y.sublist<|p8 _ _) ⋯ ⋯ cs ds (by exact u) ?_);intro out m an s;let⟨@k,rfl,L,ap⟩:=an;have N:=FL (M:=M) x y ⋯ ⋯ t cr L ap;refine a_ (kn ?_);refine a_ (jj ?_);refine a8 ?_;have c:hs m=V:=s.f.trans Q;show B (hs m).isNone _ h;rw[c];refine d (((b.drop aI).take w).take n++k++((b.drop<|aI+w).take z).drop j) _ (s.k.trans u) (by first|rfl|exact c) (by exact s.p) (by rw[<-R];exact N.2) N.1 ?_;have as:arrOf m=(b.map<|a9 R0).toArray:=s.a;have a5:k.length=w-n+j:=by rw[L.length_eq,d4,am,db]
  have a1:=vq (k.map<|a9 R0) (b.map<|a9 R0) (aI+n) 0 (aI+n) (by rw[bt,bt,a5];lia) rfl;show List.foldl (λg f=>g.setIfInBounds (aI+n+f.2) f.1) (arrOf m) (k.map<|a9 R0).toArray.toList.zipIdx=_;rw[as];refine a1.trans ?_;rw[bt,a5,<-iB,<-iV,<-gq,<-gq];congr 2;have a2:b.take (aI+n)=b.take aI++((b.drop aI).take w).take n:=by
   rw[u2,rJ cd,oa]
  have bd:b.drop (aI+n+(w-n+j))=((b.drop<|aI+w).take z).drop j++b.drop (aI+(w+z)):=by
   have:=xC (J:=b.drop (aI+w)) (a:=j) (r:=z) al (by rw[gv];lia);rw[mO,mO]at this;rw[show aI+n+(w-n+j)=aI+w+j by lia,this,show aI+w+z=aI+(w+z) by lia]
  rw[a2,bd];simp only[bg]
 ·rw[aG ev];refine a_ (HI P dL eq (x.sublist<|uG _ _) (y.sublist<|p8 _ _) ⋯ ⋯ cs ds (by exact u) ?_);intro out m an s;let⟨@k,rfl,L,ap⟩:=an;have N:=FL (M:=M) x y ⋯ ⋯ t cr L ap;refine a_ (kn ?_);refine a_ (jj ?_);refine a8 ?_;have c:hs m=V:=s.f.trans Q;show B (hs m).isNone _ h;rw[c];refine d (((b.drop aI).take w).take n++k++((b.drop<|aI+w).take z).drop j) _ (s.k.trans u) (by first|rfl|exact c) (by exact s.p) (by rw[<-R];exact N.2) N.1 ?_;have as:arrOf m=(b.map<|a9 R0).toArray:=s.a;have a5:k.length=w-n+j:=by rw[L.length_eq,d4,am,db]
  have a1:=vq (k.map<|a9 R0) (b.map<|a9 R0) (aI+n) 0 (aI+n) (by rw[bt,bt,a5];lia) rfl;show List.foldl (λg f=>g.setIfInBounds (aI+n+f.2) f.1) (arrOf m) (k.map<|a9 R0).toArray.toList.zipIdx=_;rw[as];refine a1.trans ?_;rw[bt,a5,<-iB,<-iV,<-gq,<-gq];congr 2;have a2:b.take (aI+n)=b.take aI++((b.drop aI).take w).take n:=by
   rw[u2,rJ cd,oa]
  have bd:b.drop (aI+n+(w-n+j))=((b.drop<|aI+w).take z).drop j++b.drop (aI+(w+z)):=by
   have:=xC (J:=b.drop (aI+w)) (a:=j) (r:=z) al (by rw[gv];lia);rw[mO,mO]at this;rw[show aI+n+(w-n+j)=aI+w+j by lia,this,show aI+w+z=aI+(w+z) by lia]
  rw[a2,bd];simp only[bg]
end
section
variable{R3:bp}{H:a7}{O:bf}{RW:ab->ah->Prop}{Sn:gd}{R0:Array ba}{M:Nat->Int}{v:Nat}{h:ah}{m:Array (Nat×Nat×Nat)}
structure eb(Sn:gd)(R0:Array ba)(m:Array (Nat×Nat×Nat))(Y:bk)(p:Array Nat):Prop where
 k:PyProof.Rows.kindOf Y=Sn
 a:arrOf Y=p.map (a9 R0)
 p:g9 Y=m
 f:hs Y=V
def qy(f:fv v M (eK R3 H O Sn R0) h){o:Array Nat}(b:cQ v o){a r:Nat}(RT:a<v)(c:r<v){Y:bk}(j:eb Sn R0 m Y o){B:Option Bool->bk->ah->Prop}(d:B (Z<|decide (a6 M o a<a6 M o r)) Y h):
  kasC (aM R3 H) O RW (m2 a r) B Y h:=by
 have e:∀a,a<v->(o.map<|a9 R0)[a]?=Z (a9 R0<|o.getD a 0):=λa RT=>by
  have:a<o.size:=by rw[b.size];exact RT
  simp[Array.getD,this]
 rw[ltAt'_eq];refine a_ (jj ?_);rw[j.a];dsimp only;rw[rZ,rZ,e a RT,e r c];refine a_ (a8 ?_);refine a_ (a8 ?_);exact rt f (b.lt RT) (b.lt c) j.k d
variable{o:Array Nat}
def tx{Y:bk}(j:eb Sn R0 m Y o){a r:Nat}{B:Unit->bk->ah->Prop}(d:∀b,eb Sn R0 m b (lZ o a r)->B () b h):kasC (aM R3 H) O RW (p5 a r) B Y h:=by
 rw[reverseSlice'_eq];refine kn (d _ ⟨j.k,?_,j.p,j.f⟩);show mirror (arrOf Y) a r ((r-a)/2)=_;rw[j.a];exact AZ (a9 R0) (λn=>a+n) (λn=>r-1-n) _ o
def Ln{Y:bk}(j:eb Sn R0 m Y o){a r:Nat}{B:Unit->bk->ah->Prop}(d:∀b,eb Sn R0 m b (qH o a<|a-r)->B () b h):kasC (aM R3 H) O RW (moveDown' a r) B Y h:=by
 rw[moveDown'_eq];refine kn (d _ ⟨j.k,?_,j.p,j.f⟩);show qH (arrOf Y) a (a-r)=_;rw[j.a];exact AZ (a9 R0) (λn=>a-n) (λn=>a-n-1) _ o
theorem qS{w SX:Type}{aA:fX}{F:Nat->SX->StateT w c8 (ForInStep SX)}{B:SX->w->ah->Prop}(l:Nat->SX->w->ah->Prop)(SM:Nat)(step:∀f p Y RV,f<SM->l f p Y RV->kasC aA O RW (F f p) (λu b e=>match u with | .yield a=>l (f+1) a b e | .done a=>B a b e) Y RV):∀(i g:Nat) (p:SX) (Y:w) (RV:ah),g+i<=SM->(∀p Y RV,l (g+i) p Y RV->B p Y RV)->l g p Y RV->
   kasC aA O RW (forIn (range' g i) p F) B Y RV
 |0,g,p,Y,RV,j,h,d=>by
  show kasC aA O RW (forIn ([]:List Nat) p F) B Y RV;exact kasC_nil (h p Y RV d)
 |i+1,g,p,Y,RV,j,h,d=>by
  show kasC aA O RW (forIn (g::range' (g+1) i) p F) B Y RV;refine kasC_cons (gT (step g p Y RV ⋯ d) (λu e RU=>?_) λ_ W c=>c);let⟨u,b⟩:=u;cases u with
  |done a=>exact RU
  |yield a=>exact qS l SM step i (g+1) a b e ⋯ (λp Y RV RT=>h p Y RV (by rw[show g+(i+1)=g+1+i by lia];exact RT)) RU
end
section
variable{R3:bp}{H:a7}{O:bf}{RW:ab->ah->Prop}{Sn:gd}{R0:Array ba}{M:Nat->Int}{v:Nat}{h:ah}{m:Array (Nat×Nat×Nat)}
def g7(M:Nat->Int)(o:Array Nat)(P i:Nat):Prop:=(∀a r,P<=a->a<=r->r<P+i->a6 M o a<=a6 M o r)
def Ft{o:Array Nat}{P i:Nat}(d:∀r,P+1<=r->r<P+i->a6 M o (r-1)<=a6 M o r):g7 M o P i:=by
 intro a r RT b c;obtain⟨x,rfl⟩:∃x,r=a+x:=⟨r-a,⋯⟩;clear b;induction x with
 |zero=>exact lN _
 |succ x f=>
  have g:=f ⋯;have e:=d (a+(x+1)) ⋯ c;rw[show a+(x+1)-1=a+x by lia]at e;lia
def IM(al:fv v M (eK R3 H O Sn R0) h){o:Array Nat}(am:cQ v o){P i k:Nat}(be:P+i<=v)(t:1<=k)(bi:k<=i)(l:g7 M o P k){Y:bk}(j:eb Sn R0 m Y o){B:Bool->bk->ah->Prop}(d:∀x b,cQ v x->eb Sn R0 m b x->(∀a,a<P->x[a]?=o[a]?)->g7 M x P i->B aa b h):
  kasC (aM R3 H) O RW (binarySort' P i k) B Y h:=by
 rw[binarySort'_eq];rw[show max k 1=k by lia];with_unfolding_all refine a_ (ho (a:=λp b RV=>h=RV/\p=(V,())/\∃q,cQ v q/\eb Sn R0 m b q/\(∀a,a<P->q[a]?=o[a]?)/\g7 M q P i)
  (fu (qS (λf p b RV=>h=RV/\p=(V,())/\1<=f/\∃q,cQ v q/\eb Sn R0 m b q/\(∀a,a<P->q[a]?=o[a]?)/\g7 M q P f) i ?step _ _ _ _ _ ⋯ ?fin ⟨rfl,rfl,t,o,am,j,λ_ W=>rfl,l⟩)) ?after)
 case after=>
  rintro p b RV ⟨rfl,rfl,q,A,C,E,y⟩;exact a8 (d q _ A C E y)
 case fin=>
  rintro p b RV ⟨rfl,rfl,bm,q,A,C,E,y⟩;rw[show k+(i-k)=i by lia]at y;exact⟨rfl,rfl,q,A,C,E,y⟩
 case step=>
  rintro n p b RV bn ⟨rfl,rfl,bs,q,F,S,ap,l⟩;dsimp only;have as:∀a,P<=a->a<P+0->a6 M q a<=a6 M q (P+n):=λa g e=>⋯
  have a1:∀a,P+n<=a->a<P+n->a6 M q (P+n)<=a6 M q a:=λa g e=>⋯
  refine a_ (ho (a:=λp s RV=>h=RV/\b=s/\∃J u,p=(V,J,u)/\J<=n/\(∀a,P<=a->a<P+J->a6 M q a<=a6 M q (P+n))/\(∀a,P+J<=a->a<P+n->a6 M q (P+n)<=a6 M q a))
   (fu (qS (λf p s RV=>h=RV/\b=s/\∃J u,p=(V,J,u)/\J<=u/\u<=n/\u-J<=n-f/\(∀a,P<=a->a<P+J->a6 M q a<=a6 M q (P+n))/\(∀a,P+u<=a->a<P+n->a6 M q (P+n)<=a6 M q a)) n ?s2 _ _ _ _ _ ⋯ ?f2 ⟨rfl,rfl,0,n,rfl,⋯,⋯,⋯,as,a1⟩)) ?S1)
  case f2=>
   rintro p s RV ⟨rfl,rfl,J,u,rfl,bA,b0,uH,lB,w⟩;exact⟨rfl,rfl,J,u,rfl,⋯,lB,λa f D=>w a ⋯ D⟩
  case s2=>
   rintro f p s RV bv ⟨rfl,rfl,J,u,rfl,bA,b0,uH,lB,w⟩;dsimp only;by_cases c:J >= u
   ·rw[aD c];exact a8 ⟨rfl,rfl,J,u,rfl,⋯,lB,λa f D=>w a ⋯ D⟩
   rw[aG c];have G:J<=(J+u)/2:=⋯
   have a2:(J+u)/2<u:=⋯
   have I:(J+u)/2-J<=n-(f+1):=⋯
   have N:u-((J+u)/2+1)<=n-(f+1):=⋯
   generalize (J+u)/2=mid at G a2 I N ⊢;refine a_ (qy al F ⋯ ⋯ S ?_);dsimp only;by_cases Q:a6 M q (P+n)<a6 M q (P+mid)
   ·rw[aD ⇑Q];refine a8 ⟨rfl,rfl,J,mid,rfl,G,⋯,I,lB,λa f D=>?_⟩;have:=l (P+mid) a ⋯ f D;lia
   ·rw[aG ⇑Q];refine a8 ⟨rfl,rfl,mid+1,u,rfl,⋯,b0,N,λa f D=>?_,w⟩;have:=l a (P+mid) f ⋯ ⋯;lia
  case S1=>
   rintro p s RV ⟨rfl,rfl,J,u,rfl,bA,lB,w⟩;dsimp only;refine a_ (Ln S ?_);intro ca bd;have L:∀a,(qH q (P+n)<|P+n-(P+J))[a]?=if a=P+J then q[P+n]? else if P+J<a/\a<=P+n then q[a-1]? else q[a]?:=λa=>by
    have:=getElem?_bubble (xs:=q) (src:=P+n) (by rw[F.size];lia) (P+n-(P+J)) ⋯ a
    rwa [show P+n-(P+n-(P+J))=P+J by lia]at this
   have aY:∀a,a6 M (qH q (P+n)<|P+n-(P+J)) a=if a=P+J then a6 M q (P+n) else if P+J<a/\a<=P+n then a6 M q (a-1) else a6 M q a:=λa=>by
    have L:=L a;by_cases c:a=P+J
    ·rw[aD c]at L ⊢;exact lC L
    ·rw[aG c]at L ⊢;by_cases R:P+J<a/\a<=P+n
     ·rw[aD R]at L ⊢;exact lC L
     ·rw[aG R]at L ⊢;exact lC L
   refine a8 ⟨rfl,rfl,⋯,_,F.QO _ _,bd,λa RT=>by rw[L,aG ⋯,aG ⋯];exact ap a RT,Ft λr f D=>?_⟩;rw[aY,aY];by_cases T:r-1=P+J
   ·rw[aD T,aG ⋯,aD ⋯];exact w (r-1) ⋯ ⋯
   ·rw[aG T];by_cases U:r=P+J
    ·rw[aD U,aG ⋯];exact lB (r-1) ⋯ ⋯
    ·rw[aG U];by_cases ce:P+J<r-1
     ·rw[aD ⋯,aD ⋯];exact l _ _ ⋯ ⋯ ⋯
     ·rw[aG ⋯,aG ⋯];exact l _ _ ⋯ ⋯ ⋯
def dZ(M:Nat->Int)(o:Array Nat):Nat->List (Nat×Nat×Nat)->Nat->Prop
 |g,[],e=>g=e
 |g,(f,J,_)::y,e=>f=g/\0<J/\g7 M o f J/\dZ M o (g+J) y e
variable{o:Array Nat}
theorem dZ.le:∀{y:List (Nat×Nat×Nat)}{g e:Nat},dZ M o g y e->g+y.length<=e
 |[],g,e,d=>by rw[show e=g from d.symm];exact bl _
 | (f,J,_)::y,g,e,d=>by
  have:=d.2.2.2.le;have:=d.2.1;rw[dA];lia
theorem dZ.congr{q:Array Nat}:∀{y:List (Nat×Nat×Nat)}{g e:Nat},dZ M o g y e->(∀a,g<=a->a<e->a6 M q a=a6 M o a)->dZ M q g y e
 |[],g,e,d,_=>d
 | (f,J,_)::y,g,e,d,L=>by
  have:=d.2.2.2.le;let@⟨rfl,A,b,c⟩:=d;refine⟨rfl,A,λa r RT h i=>?_,c.congr λa g e=>L a ⋯ e⟩;rw[L a RT ⋯,L r ⋯ ⋯];exact b a r RT h i
theorem dZ.app{o:Array Nat}:∀{y I:List (Nat×Nat×Nat)}{g e:Nat},dZ M o g (y++I) e↔∃p,dZ M o g y p/\dZ M o p I e
 |[],I,g,e=>⟨λd=>⟨g,rfl,d⟩,λ⟨p,c,d⟩=>by rw[show g=p from c];exact d⟩
 | (f,J,C)::y,I,g,e=>by
  show (f=g/\0<J/\g7 M o f J/\dZ M o (g+J) (y++I) e)↔_;rw[dZ.app];constructor
  ·rintro⟨t,A,a,p,b,h⟩;exact⟨p,⟨t,A,a,b⟩,h⟩
  ·rintro⟨p,⟨t,A,a,b⟩,h⟩;exact⟨t,A,a,p,b,h⟩
def Hc{Sj:Type}{J:List Sj}{a:Nat}(d:a+1<J.length):∃b f D c,J=b++f::D::c/\b.length=a:=by
 refine⟨J.take a,J[a]'⋯,J[a+1],J.drop<|a+2,?_,by rw[gh];lia⟩;have e:=iK (l:=J) (i:=a) ⋯;have g:=iK (l:=J) (i:=a+1) d;rw[<-g,<-e,eW]
def uV(J:List Nat)(a:Nat):a6 M J.toArray a=M (J.getD a 0):=by unfold a6;rw[kQ]
def z4(Q:fv v M (eK R3 H O Sn R0) h){o:Array Nat}(D:cQ v o){Y:bk}(j:eb Sn R0 m Y o){P a:Nat}(RT:a+1<m.size)(R1:dZ M o 0 m.toList P)(cl:P<=v){B:Bool->bk->ah->Prop}(d:∀E s u,cQ v s->eb Sn R0 E u s->E.size+1=m.size->dZ M s 0 E.toList P->(∀a,P<=a->a6 M s a=a6 M o a)->B aa u h):kasC (aM R3 H) O RW (ta a) B Y h:=by
 let⟨b,⟨aI,w,l⟩,⟨cJ,z,x⟩,@q,c,rfl⟩:=Hc (J:=m.toList) (a:=a) ⇑RT;rw[c]at R1;let⟨@p,R,rfl,S,T,rfl,U,al,bB⟩:=dZ.app.mp R1;have b0:=bB.le;have y:m=(b++(aI,w,l)::(aI+w,z,x)::q).toArray:=by rw[<-c]
 have am:o.size=v:=D.size;have an:∀f∈o.toList,f<v:=λf ap=>en.mp (D.mem_iff.mp ap);have C:∀a,a6 M o a=M (o.toList.getD a 0):=λa=>uV o.toList a;have a5:o.toList.length=v:=by rw[c6,am]
 have G:∀g i,g+i<=v->g7 M o g i->cb M ((o.toList.drop g).take i):=λg i co d=>by
  refine nj.mpr λa r RT as cr=>?_;have a1:=RT;have a2:=as;rw[gh,gv,a5]at a1 a2;have:=d (g+a) (g+r) ⋯ ⋯ ⋯;rw[C,C]at this;rw[sD,o9,sD,o9];rw[ct,ct,dr ⋯,dr ⋯]at this;exact this
 refine JO Q (b:=o.toList) an (a:=b.length) (aI:=aI) (w:=w) (z:=z) (be:=l) (ex:=x) j.k (by rw[j.a];apply jU;simp) j.f (by rw[j.p,y];simp) (by rw[j.p,y];simp) S U ⋯ (G _ _ ⋯ T) (G _ _ ⋯ al) ?_;intro mid u bd be bi I bm bn;have bs:mid.length=w+z:=by rw[I.length_eq,gh,gv,a5];lia
 have bv:o.toList.take aI++(o.toList.drop aI).take (w+z)++o.toList.drop (aI+(w+z))=o.toList:=by rw[oa,eW]
 have ca:cQ v (o.toList.take aI++mid++o.toList.drop (aI+(w+z))).toArray:=by
  show (o.toList.take aI++mid++o.toList.drop (aI+(w+z))).Perm (range v);refine List.Perm.trans (eo _<|dp _ I) ?_;rw[bv];exact D
 have Tv:(o.toList.take aI).length=aI:=by rw[gh,a5];lia
 have cd:∀a,a<aI->a6 M (o.toList.take aI++mid++o.toList.drop (aI+(w+z))).toArray a=a6 M o a:=λa RT=>by
  rw[uV,C];congr 1;rw[ct,ct,bg,lY ⋯,m_,aD RT]
 have L:∀a,aI+(w+z)<=a->a6 M (o.toList.take aI++mid++o.toList.drop (aI+(w+z))).toArray a=a6 M o a:=λa RT=>by
  rw[uV,C];congr 1;rw[ct,ct,kN (by rw[d4];lia),mc,d4,Tv,bs];congr 2;lia
 have N:∀a,aI<=a->a<aI+(w+z)->a6 M (o.toList.take aI++mid++o.toList.drop (aI+(w+z))).toArray a=M (mid.getD (a-aI) 0):=λa t A=>by
  rw[uV];congr 1;rw[ct,ct,bg,kN ⋯,Tv,lY ⋯]
 have ce:((b++(aI,w,l)::(aI+w,z,x)::q).toArray.setIfInBounds b.length (aI,w+z,l)).eraseIdxIfInBounds (b.length+1)=(b++(aI,w+z,l)::q).toArray:=by
  rw[Dh,List.set_append_right _ _<|bl _,Gs,C4];rw[zM,List.eraseIdx_append_of_length_le ⋯,show b.length+1-b.length=1 by lia];rfl
 refine d ((b++(aI,w+z,l)::q).toArray) _ u ca ⟨bd,by rw[bn];apply jU;simp,by rw[bi,j.p,y,ce],be⟩ (by rw[y];simp;lia) ?_ (λa RT=>L a ⋯);have ch:dZ M o (aI+(w+z)) q P:=by rw[<-oV];exact bB
 refine dZ.app.mpr ⟨aI,R.congr λa W e=>cd a e,rfl,⋯,λa r t A ci=>?_,ch.congr λa g e=>L a g⟩
 ·rw[N a t ⋯,N r ⋯ ci];exact mB bm ⋯ ⋯
end
section
variable{R3:bp}{H:a7}{O:bf}{RW:ab->ah->Prop}{Sn:gd}{R0:Array ba}{M:Nat->Int}{v:Nat}{h:ah}{m:Array (Nat×Nat×Nat)}
variable{q:Array Nat}
def sf(b:cQ v q){a r:Nat}(c:r<=v)(n:Nat):(lZ q a r)[n]?=if a<=n/\n<r then q[a+r-1-n]? else q[n]?:=by
 unfold lZ;rw[getElem?_mirror_all (by rw[b.size];lia)]
def Ht(b:cQ v q){a r:Nat}(e:r<=v)(c:∀n,a<=n->n<r->a6 M q n=a6 M q a)(n:Nat):a6 M (lZ q a r) n=a6 M q n:=by
 by_cases d:a<=n/\n<r
 ·rw[lC (show (lZ q a r)[n]?=q[a+r-1-n]? by rw[sf b e,aD d]),c _ ⋯ ⋯,c n d.1 d.2]
 ·exact lC (by rw[sf b e,aG d])
structure dt(M:Nat->Int)(v P:Nat)(o q:Array Nat):Prop where
 eM:cQ v q
 be:∀a,a<P->q[a]?=o[a]?
 aY:∀n,a6 M q n=a6 M o n
def dt.rev{P:Nat}{o:Array Nat}(b:dt M v P o q){a r:Nat}(RT:P<=a)(d:r<=v)(c:∀n,a<=n->n<r->a6 M o n=a6 M o a):dt M v P o (lZ q a r):=
 ⟨b.eM.rev a r,λn f=>by rw[sf b.eM d,aG ⋯];exact b.be n f,λn=>by
  rw[Ht b.eM d (λn g e=>by rw[b.aY,b.aY];exact c n g e)];exact b.aY n⟩
theorem Ah{F:Nat->Int}{g e:Nat}(d:∀r,g+1<=r->r<e->F r=F (r-1)):∀x,g+x<e->F (g+x)=F g
 |0,_=>rfl
 |x+1,a=>(d (g+(x+1)) ⋯ a).trans (Ah d x ⋯)
def Ei(l:fv v M (eK R3 H O Sn R0) h){P a:Nat}(w:P+a<=v){q:Array Nat}{e:bk}{g:Nat}(n:cQ v q)(R5:eb Sn R0 m e q)(x:1<=g)(S1:g<=a)(o:∀r,P+1<=r->r<P+g->a6 M q (r-1)<=a6 M q r):
   kasC (aM R3 H) O RW (forIn [g:a] ((V:Option (Option Nat)),g) λf p=>m2 (P+p.2) (P+p.2-1) >>= λu=>match u with
    |some s=>if s=aa then pure (ForInStep.done (V,p.2)) else pure (ForInStep.yield (V,p.2+1))
    |f=>pure<|ForInStep.done (Z V,p.2))
    (λp b RV=>h=RV/\e=b/\∃i,p=(V,i)/\g<=i/\i<=a/\(∀r,P+1<=r->r<P+i->a6 M q (r-1)<=a6 M q r)/\(i=a\/a6 M q (P+i)<a6 M q (P+i-1))) e h:=by
 refine fu (qS (λf p b RV=>h=RV/\e=b/\p=(V,f)/\g<=f/\∀r,P+1<=r->r<P+f->a6 M q (r-1)<=a6 M q r) a ?_ _ _ _ _ _ ⋯ ?_ ⟨rfl,rfl,rfl,bl _,o⟩)
 ·rintro f p b RV y ⟨rfl,rfl,rfl,k,d⟩;dsimp only;refine a_ (qy l n ⋯ ⋯ R5 ?_);dsimp only;by_cases j:a6 M q (P+f)<a6 M q (P+f-1)
  ·rw[aD ⇑j];exact a8 ⟨rfl,rfl,f,rfl,k,⋯,d,.inr j⟩
  ·rw[aG ⇑j];refine a8 ⟨rfl,rfl,rfl,⋯,λr t z=>?_⟩;by_cases c:r=P+f
   ·subst c;lia
   ·exact d r t ⋯
 ·rintro p b RV ⟨rfl,rfl,rfl,k,d⟩;rw[show g+(a-g)=a by lia]at d ⊢;exact⟨rfl,rfl,a,rfl,⋯,bl _,d,.inl rfl⟩
def u_(P a i:Nat): StateT bk c8 (Option Nat):=(p5 P (P+i) >>= λ_ => (forIn [i:a] ((V:Option (Option Nat)),i) λf p => m2 (P+p.2) (P+p.2-1) >>= λu => match u with
    |some b => if b=aa then pure (ForInStep.done (V,p.2)) else pure (ForInStep.yield (V,p.2+1))
    |f => pure<|ForInStep.done (Z V,p.2)) >>= λp => match p.1 with
    |some u => pure u
    |none => pure (Z p.2))
def Ae(P f:Nat)(p:Option (Option Nat)×Nat×Nat):StateT bk c8 (ForInStep<|Option (Option Nat)×Nat×Nat):=(m2 (P+p.2.1) (P+p.2.1-1) >>= λu=>match u with
 |some a=>if a=aa then (if p.2.2>0 then p5 (P+p.2.1-(p.2.2+1)) (P+p.2.1) >>= λ_=>pure (.yield (V,p.2.1+1,0)) else pure (.yield (V,p.2.1+1,0)))
  else m2 (P+p.2.1-1) (P+p.2.1) >>= λu=>match u with
   |some b=>if b=aa then pure (.done (V,p.2.1,p.2.2)) else pure (.yield (V,p.2.1+1,p.2.2+1))
   |f=>pure (.done (Z V,p.2.1,p.2.2))
 |f=>pure (.done (Z V,p.2.1,p.2.2)))
def sb(P a i:Nat):StateT bk c8 (Option Nat):=(liftM (PySem.rule "list.sort.descending-run") >>= λ_=>forIn [i+1:a] ((V:Option (Option Nat)),i+1,0) (Ae P) >>= λp=>match p.1 with
 |some u=>pure u
 |none=>if p.2.2>0 then p5 (P+p.2.1-(p.2.2+1)) (P+p.2.1) >>= λ_=>u_ P a p.2.1 else u_ P a p.2.1)
def AY(l:fv v M (eK R3 H O Sn R0) h){P f i:Nat}(n:P+f<=v){o q:Array Nat}{Y:bk}(b:dt M v P o q)(j:eb Sn R0 m Y q)(s:1<=i)(t:i<=f)(u:∀r,P+1<=r->r<P+i->a6 M o r<=a6 M o (r-1)){B:Option Nat->bk->ah->Prop}(d:∀i c k,1<=i->i<=f->cQ v c->eb Sn R0 m k c->(∀a,a<P->c[a]?=o[a]?)->(∀r,P+1<=r->r<P+i->a6 M c (r-1)<=a6 M c r)->B (Z i) k h):kasC (aM R3 H) O RW (u_ P f i) B Y h:=by
 unfold u_;refine a_ (tx j λz Sf=>?_);have L:=sf b.eM (a:=P) (r:=P+i) ⋯;have aY:∀a,P<=a->a<P+i->a6 M (lZ q P<|P+i) a=a6 M o (P+(P+i)-1-a):=λa g e=>(lC (by rw[L,aD ⟨g,e⟩])).trans (b.aY _);refine a_ (ho (Ei l n (b.eM.rev P<|P+i) Sf s t λr A C=>?_) ?_)
 ·rw[aY _ ⋯ ⋯,aY _ ⋯ ⋯];have:=u (P+(P+i)-1-(r-1)) ⋯ ⋯;rw[show P+(P+i)-1-(r-1)-1=P+(P+i)-1-r by lia]at this;exact this
 ·rintro p k RV ⟨rfl,rfl,w,rfl,D,x,y,E⟩;dsimp only;exact a8 (d w _ _ ⋯ x (b.eM.rev P<|P+i) Sf (λa RT=>by rw[L,aG ⋯];exact b.be a RT) y)
def Ef(A:fv v M (eK R3 H O Sn R0) h){P l i:Nat}(G:P+l<=v){o q:Array Nat}{Y:bk}(Q:dt M v P o q)(j:eb Sn R0 m Y q)(am:1<=i)(an:i<l)(R:∀r,P+1<=r->r<P+(i+1)->a6 M o r<=a6 M o (r-1)){B:Option Nat->bk->ah->Prop}(d:∀i z s,1<=i->i<=l->cQ v z->eb Sn R0 m s z->(∀a,a<P->z[a]?=o[a]?)->(∀r,P+1<=r->r<P+i->a6 M z (r-1)<=a6 M z r)->B (Z i) s h):kasC (aM R3 H) O RW (sb P l i) B Y h:=by
 have aT:∀{f x:Nat},x+1<=f->(∀r,P+f-x<=r->r<P+f->a6 M o r=a6 M o (r-1))->∀n,P+f-(x+1)<=n->n<P+f->a6 M o n=a6 M o (P+f-(x+1)):=λ{f x} w c n g e=>by
  have:=Ah (F:=a6 M o) (g:=P+f-(x+1)) (e:=P+f) (λr f D=>c r ⋯ D) (n-(P+f-(x+1))) ⋯
  rwa [show P+f-(x+1)+(n-(P+f-(x+1)))=n by lia]at this
 unfold sb;refine a_ (nI<|jy ?_);refine a_ (ho (a:=λp s RV=>h=RV/\∃k f x,p=(V,f,x)/\eb Sn R0 m s k/\dt M v P o k/\i+1<=f/\f<=l/\x+1<=f/\(∀r,P+1<=r->r<P+f->a6 M o r<=a6 M o (r-1))/\∀r,P+f-x<=r->r<P+f->a6 M o r=a6 M o (r-1))
  (fu (qS (λf p s RV=>h=RV/\∃k x,p=(V,f,x)/\eb Sn R0 m s k/\dt M v P o k/\i+1<=f/\x+1<=f/\(∀r,P+1<=r->r<P+f->a6 M o r<=a6 M o (r-1))/\∀r,P+f-x<=r->r<P+f->a6 M o r=a6 M o (r-1)) l ?Sx _ _ _ _ _ ⋯ ?SK ⟨rfl,q,0,rfl,j,Q,bl _,⋯,R,λr g e=>⋯⟩)) ?T)
 case Sx=>
  rintro f p s RV as ⟨rfl,k,x,rfl,S,b,C,y,t,u⟩;unfold Ae;dsimp only;refine a_ (qy A b.eM ⋯ ⋯ S ?_);dsimp only;rw[b.aY,b.aY];by_cases I:a6 M o (P+f)<a6 M o (P+f-1)
  ·rw[aD ⇑I];have J:∀r,P+1<=r->r<P+(f+1)->a6 M o r<=a6 M o (r-1):=λr E U=>by
    by_cases c:r=P+f
    ·subst c;lia
    ·exact t r E ⋯
   by_cases w:x>0
   ·rw[aD w];refine a_ (tx S λal Sf=>?_);exact a8 ⟨rfl,_,0,rfl,Sf,b.rev ⋯ ⋯<|aT y u,⋯,⋯,J,λr g e=>⋯⟩
   ·rw[aG w];exact a8 ⟨rfl,k,0,rfl,S,b,⋯,⋯,J,λr g e=>⋯⟩
  ·rw[aG ⇑I];refine a_ (qy A b.eM ⋯ ⋯ S ?_);dsimp only;rw[b.aY,b.aY];by_cases L:a6 M o (P+f-1)<a6 M o (P+f)
   ·rw[aD ⇑L];exact a8 ⟨rfl,k,f,x,rfl,S,b,C,⋯,y,t,u⟩
   ·rw[aG ⇑L];refine a8 ⟨rfl,k,x+1,rfl,S,b,⋯,⋯,λr E U=>?_,λr g e=>?_⟩
    ·by_cases c:r=P+f
     ·subst c;lia
     ·exact t r E ⋯
    ·by_cases c:r=P+f
     ·subst c;lia
     ·exact u r ⋯ ⋯
 case SK=>
  rintro p s RV ⟨rfl,k,x,rfl,S,b,C,y,t,u⟩;rw[show i+1+(l-(i+1))=l by lia] at *;exact⟨rfl,k,l,x,rfl,S,b,C,bl _,y,t,u⟩
 case T=>
  rintro p s RV ⟨rfl,k,f,x,rfl,S,b,C,N,y,t,u⟩;dsimp only;by_cases w:x>0
  ·rw[aD w];refine a_ (tx S λal Sf=>?_);exact AY A G (b.rev ⋯ ⋯<|aT y u) Sf ⋯ N t d
  ·rw[aG w];exact AY A G b S ⋯ N t d
def Cc(P a:Nat): StateT bk c8 (Option Nat):=((forIn [1:a] ((V:Option (Option Nat)),1) λf p => m2 (P+p.2) (P+p.2-1) >>= λu => match u with
    |some b => if b=aa then pure (ForInStep.done (V,p.2)) else pure (ForInStep.yield (V,p.2+1))
    |f => pure<|ForInStep.done (Z V,p.2)) >>= λp => match p.1 with
    |some u => pure u
    |none => if (p.2==a)=aa then pure (Z p.2) else if p.2>1 then m2 P (P+p.2-1) >>= λu => match u with
      |some c => if c=aa then pure (Z p.2) else p5 P (P+p.2) >>= λ_ => sb P a p.2
      |f => pure V
      else sb P a p.2)
def P0(P a:Nat):countRun' P a=Cc P a:=by
 kernel_rfl
def QU(l:fv v M (eK R3 H O Sn R0) h){o:Array Nat}(b:cQ v o){P f:Nat}(t:1<=f)(s:P+f<=v){Y:bk}(j:eb Sn R0 m Y o){B:Option Nat->bk->ah->Prop}(d:∀i k u,1<=i->i<=f->cQ v k->eb Sn R0 m u k->(∀a,a<P->k[a]?=o[a]?)->(∀r,P+1<=r->r<P+i->a6 M k (r-1)<=a6 M k r)->B (Z i) u h):
  kasC (aM R3 H) O RW (countRun' P f) B Y h:=by
 rw[P0];unfold Cc;have C:dt M v P o o:=⟨b,λ_ W=>rfl,λ_=>rfl⟩;refine a_ (ho (Ei l s b j (bl _) t λr g e=>⋯) ?_);rintro p u RV ⟨rfl,rfl,i,rfl,w,D,q,G⟩;dsimp only;by_cases c:i=f
 ·rw[aD ⇑c];exact a8 (d i o _ w D b j (λ_ W=>rfl) q)
 rw[aG ⇑c];have I:a6 M o (P+i)<a6 M o (P+i-1):=G.resolve_left c;by_cases E:i>1
 ·rw[aD E];refine a_ (qy l b ⋯ ⋯ j ?_);dsimp only;by_cases F:a6 M o P<a6 M o (P+i-1)
  ·rw[aD ⇑F];exact a8 (d i o _ w D b j (λ_ W=>rfl) q)
  ·rw[aG ⇑F];have J:∀x,x<i->a6 M o P<=a6 M o (P+x)/\a6 M o (P+x)<=a6 M o (P+i-1):=by
    have L:∀x,x<i->a6 M o P<=a6 M o (P+x):=λx=>by
     induction x with
     |zero=>intro W;exact lN _
     |succ x y=>
      intro z;have g:=q (P+(x+1)) ⋯ ⋯;rw[show P+(x+1)-1=P+x by lia]at g;have:=y ⋯;lia
    have N:∀x,x<i->a6 M o (P+i-1-x)<=a6 M o (P+i-1):=λx=>by
     induction x with
     |zero=>intro W;exact lN _
     |succ x y=>
      intro z;have g:=q (P+i-1-x) ⋯ ⋯;rw[show P+i-1-x-1=P+i-1-(x+1) by lia]at g;have:=y ⋯;lia
    intro x z;refine⟨L x z,?_⟩;have:=N (i-1-x) ⋯
    rwa [show P+i-1-(i-1-x)=P+x by lia]at this
   have A:∀n,P<=n->n<P+i->a6 M o n=a6 M o P:=λn g e=>by
    have:=J (n-P) ⋯;rw[show P+(n-P)=n by lia]at this;lia
   refine a_ (tx j λS Sf=>?_);exact Ef (o:=o) l s (C.rev (bl _) ⋯ A) Sf w ⋯ (λr Q R=>by
    by_cases c:r=P+i
    ·subst c;lia
    ·rw[A r ⋯ ⋯,A (r-1) ⋯ ⋯];exact lN _) d
 rw[aG E];obtain rfl:i=1:=⋯
 exact Ef (o:=o) l s C j (bl _) ⋯ (λr Q R=>by
  obtain rfl:r=P+1:=⋯
  exact Int.le_of_lt I) d
end
section
variable{R3:bp}{H:a7}{O:bf}{RW:ab->ah->Prop}{Sn:gd}{R0:Array ba}{M:Nat->Int}{v:Nat}{h:ah}{m:Array (Nat×Nat×Nat)}
variable{o:Array Nat}
theorem dZ.same:∀{y I:List (Nat×Nat×Nat)}{g e:Nat},dZ M o g y e->(y.map λf=>(f.1,f.2.1))=(I.map λf=>(f.1,f.2.1))->dZ M o g I e
 |[],[],g,e,d,_=>d
 |[],_::_,g,e,d,c=>by cases c
 |_::_,[],g,e,d,c=>by cases c
 | (f,J,C)::y,(j,k,l)::I,g,e,d,c=>by
  rw[bY,bY]at c;injection c with h i;injection h with a b;dsimp only at a b;subst a;subst b;exact⟨d.1,d.2.1,d.2.2.1,d.2.2.2.same i⟩
def MW(z:Array (Nat×Nat×Nat))(a C:Nat):(z.toList.map λf=>(f.1,f.2.1))=((z.modify a λf=>(f.1,f.2.1,C)).toList.map λf=>(f.1,f.2.1)):=by
 apply oY;intro r;rw[dT,dT,eg,eg,Array.getElem?_modify];split
 ·rw[Option.map_map];rfl
 ·rfl
def g7.congr{q:Array Nat}{P i:Nat}(d:g7 M o P i)(L:∀a,P<=a->a6 M q a=a6 M o a):g7 M q P i:=λa r g e p=>by
 rw[L a g,L r ⋯];exact d a r g e p
def LA{aA:fX}{O:bf}{RW:ab->ah->Prop}{w Sj:Type}{p:Nat->Prop}{c:∀i,Decidable (p i)}{b SY:Nat->StateT w c8 Sj}{B:Sj->w->ah->Prop}{h:ah}(R4:Nat->w->Prop)(j:∀i Y,R4 i Y->kasC aA O RW (SY i) B Y h)(a:(∀i Y,R4 i Y->kasC aA O RW (SY i) B Y h)->∀i Y,p i->R4 i Y->kasC aA O RW (b i) B Y h):∀i Y,R4 i Y->kasC aA O RW (if p i then b i else SY i) B Y h:=λi Y o=>
 if d:p i then by rw[aD d];exact a j i Y d o else by rw[aG d];exact j i Y o
variable{B:Unit->bk->ah->Prop}
def MZ(z:fv v M (eK R3 H O Sn R0) h)(A:2<=v)(a1:∀t b,cQ v t->kA M t v->arrOf b=t.map (a9 R0)->hs b=V->B () b h):kasC (aM R3 H) O RW sortRuns' B (tM Sn R0 (range v).toArray) h:=by
 rw[sortRuns'_eq];refine a_ (jj ?_);dsimp only;have a2:(arrOf<|tM Sn R0 (range v).toArray).size=v:=by
  show ((range v).toArray.map<|a9 R0).size=v;simp
 simp only[a2];refine a_ (ho (a:=λp b RV=>h=RV/\p=(V,v)/\∃m o,cQ v o/\eb Sn R0 m b o/\dZ M o 0 m.toList v)
  (fu (f_ (λf p b RV=>h=RV/\∃P m o,p=(V,P)/\f<=P/\P<=v/\cQ v o/\eb Sn R0 m b o/\dZ M o 0 m.toList P) ?step _ 0 _ _ _ ?fin ⟨rfl,0,#[],(range v).toArray,rfl,bl _,⋯,List.Perm.refl _,⟨rfl,rfl,rfl,rfl⟩,rfl⟩)) ?after)
 case fin=>
  rintro p b RV ⟨rfl,P,m,o,rfl,g,e,x,c,F⟩;have:P=v:=⋯
  subst this;exact⟨rfl,rfl,m,o,x,c,F⟩
 case after=>
  rintro p b RV ⟨rfl,rfl,m,o,s,j,R1⟩;dsimp only;refine a_ (ho (a:=λp b RV=>h=RV/\p=(V,())/\∃o,cQ v o/\kA M o v/\arrOf b=o.map (a9 R0)/\hs b=V)
   (fu (f_ (λf p b RV=>h=RV/\p=(V,())/\∃m o,cQ v o/\eb Sn R0 m b o/\dZ M o 0 m.toList v/\m.size+f<=v) ?E _ 0 _ _ _ ?f2 ⟨rfl,rfl,m,o,s,j,R1,by have:=R1.le;rw[c6]at this;lia⟩)) ?S1)
  case S1=>
   rintro p b RV ⟨rfl,rfl,o,g,e,p,x⟩;exact a8 (a1 o _ g e p x)
  case f2=>
   rintro p b RV ⟨rfl,rfl,m,o,s,j,R1,bd⟩;have c:m.toList=[]:=mW (by rw[c6];lia);rw[c]at R1;have:0=v:=R1;lia
  case E=>
   rintro f p b RV ⟨rfl,rfl,m,o,s,j,R1,bd⟩;refine a_ (jj ?_);by_cases c:(g9 b).size<=1
   ·rw[aD c];refine a8 ⟨rfl,rfl,o,s,?_,j.a,j.f⟩;rw[j.p]at c;have be:m.toList.length<=1:=by rw[c6];exact c
    match U:m.toList,be with
    |[],_=>
     rw[U]at R1;have:0=v:=R1;lia
    |[(f,J,C)],_=>
     rw[U]at R1;let@⟨rfl,_,bi,bm⟩:=R1;have:0+J=v:=bm;exact λa r bn cl=>bi a r (gP _) bn ⋯
    |_::_::_,d=>exact absurd d ↥0
   ·rw[aG c];rw[j.p]at c;have bs:∀R,R+1<m.size->kasC (aM R3 H) O RW (ta R) (λe u E=>e=aa/\h=E/\∃m o,cQ v o/\eb Sn R0 m u o/\dZ M o 0 m.toList v/\m.size+(f+1)<=v) b h:=λR bv=>
     z4 z s j bv R1 (bl _) λS t ca g e p x al=>⟨rfl,rfl,S,t,g,e,x,⋯⟩;refine a_ (ho (bs _ ?_) ?_)
    ·rw[j.p];have:∀(p:Prop) [Decidable p],(if p then m.size-2-1 else m.size-2)+1<m.size:=λp W=>by split<;>lia
     exact this _
    ·rintro e u E ⟨rfl,rfl,cd⟩;rw[aG ∅];exact a8 ⟨rfl,rfl,cd⟩
 case step=>
  rintro f p b RV ⟨rfl,P,m,o,rfl,co,cr,s,j,R1⟩;dsimp only;by_cases am:P >= v
  ·rw[aD am];have:P=v:=⋯
   subst this;exact a8 ⟨rfl,rfl,m,o,s,j,R1⟩
  rw[aG am];refine a_ (QU z s ⋯ ⋯ j ?_);intro i an y w G I R5 ap L;have q:i<=v-P/\1<=i/\∃o,cQ v o/\eb Sn R0 m y o/\dZ M o 0 m.toList P/\g7 M o P i:=⟨G,w,an,I,R5,R1.congr λa W e=>lC<|ap a e,Ft L⟩;dsimp only;clear L ap R5 I w G;revert i y;refine LA (λi y=>i<=v-P/\1<=i/\∃o,cQ v o/\eb Sn R0 m y o/\dZ M o 0 m.toList P/\g7 M o P i) ?_ ?_
  ·intro i u q;let@⟨G,w,⟨@SU,N,Sf,bB,Q⟩⟩:=q;refine a_ (jj ?_);rcases cs:(g9 u).back? with _|⟨db,ds,dL⟩
   ·dsimp only;refine a_ (kn ?_);refine a8 ⟨rfl,P+i,m.push (P,i,0),SU,rfl,⋯,⋯,N,⟨Sf.k,Sf.a,by show (g9 u).push _=_;rw[Sf.p],Sf.f⟩,?_⟩;rw[yO];exact dZ.app.mpr ⟨P,bB,rfl,⋯,Q,rfl⟩
   ·dsimp only;refine a_ (ho (a:=λp b RV=>h=RV/\p=(V,())/\∃m o,cQ v o/\eb Sn R0 m b o/\dZ M o 0 m.toList P/\g7 M o P (i))
     (fu<|f_ (λf p b RV=>h=RV/\p=(V,())/\∃m o,cQ v o/\eb Sn R0 m b o/\dZ M o 0 m.toList P/\g7 M o P (i)) ?_ _ 0 _ _ _ (λ_ W W C=>C) ⟨rfl,rfl,m,SU,N,Sf,bB,Q⟩) ?_)
    ·rintro D p b RV ⟨rfl,rfl,m,o,s,j,R1,O⟩;refine a_ (jj ?_);by_cases c:(g9 b).size>1
     ·rw[aD c];rcases eq:(g9 b)[(g9 b).size-2]? with _|⟨g,e,ev⟩
      ·dsimp only;exact a8 ⟨rfl,rfl,m,o,s,j,R1,O⟩
      ·dsimp only;split
       ·exact a8 ⟨rfl,rfl,m,o,s,j,R1,O⟩
       ·refine a_ (z4 z s j (by rw[j.p]at c ⊢;lia) R1 ⋯ ?_);intro S t ca g e p x al;rw[aG ∅];exact a8 ⟨rfl,rfl,S,t,g,e,x,O.congr al⟩
     ·rw[aG c];dsimp only;exact a8 ⟨rfl,rfl,m,o,s,j,R1,O⟩
    ·rintro p b RV ⟨rfl,rfl,m,o,s,j,R1,O⟩;dsimp only;refine a_ (kn ?_);refine a_ (kn ?_);refine a8 ⟨rfl,P+i,(m.modify (m.size-1) _).push (P,i,0),o,rfl,⋯,⋯,s,⟨j.k,j.a,by show ((g9 b).modify ((g9 b).size-1) _).push _=_;rw[j.p],j.f⟩,?_⟩;rw[yO];exact dZ.app.mpr ⟨P,R1.same<|MW _ _ _,rfl,⋯,O,rfl⟩
  ·intro R8 i y ex q;let@⟨G,w,⟨@an,I,R5,ce,L⟩⟩:=q;refine a_ (nI<|jy ?_);have l:i<=min (v-P) (minRun' v v 0):=⋯
   have as:min (v-P) (minRun' v v 0)<=v-P:=⋯
   generalize min (v-P) (minRun' v v 0)=ch at l as ⊢;refine a_ (IM z I ⋯ w l L R5 ?_);intro SU u N Sf ci Q;rw[aG ∅];exact R8 ch u ⟨as,dx w l,SU,N,Sf,ce.congr λa W e=>lC<|ci a e,Q⟩
def G1(c:fv v M (eK R3 H O Sn R0) h)(A:2<=v)(e:v<1001\/∀r,1<=r->r<v->M (r-1)<=M r)(d:∀a b,cQ v a->kA M a v->arrOf b=a.map (a9 R0)->hs b=V->B () b h):kasC (aM R3 H) O RW sortRuns' B (tM Sn R0 (range v).toArray) h:=MZ c A d
end
end L2
namespace L2
open Spec PyProof.Rows
section
variable{b:aJ}
def PR:dO b (fH .Mult) (pI IntMulOk λa r=>.int<|a*r):=sy λ_ W W W W W W c q=>mul_int q c
end
variable{h:ah}{SW:bB}{SF SO Sy:List Nat}{own RY:List au}{z T:List ao}{Q:Φ}{S4 Sz p e c g:bj}{Th:List bI}{RW:nG}{r v n:Nat}{Tq w:aZ}{fd:fY}{f:au}{o Sd:Pos}{E:List X}{ae SM O R1 Sp Sg SA R2 N:List ag}{U u:List bj}{B:cx}{Sw:ei}{b:aJ}{Sf R5 S j:ax}{s:ao}
inductive ai where
 | im (x:X)
 | ed
 | cv (E:List X)
 | lst (E:List X)
 | dN (R9:List (dX×X))
 | aO (R9:List (List X×X))
 | hl (z:List ai)
 | o7 (z:List ai)
 | eV (R9:List (List X×X))
 | dL (R9:List (List X×List X))
 | uZ (R:List dX) (E:List ai)
 | aS (ae:ag) (R:List au) (E:List ai)
variable{m:Option ai}{SJ:List ai->Option ai}{F:ai->ai->Option ai}{x:ai}
abbrev aW:=List (Option ai)
variable{Sl k:aW}{d:List ai->aW->Option aW}
abbrev d_{Sn:Type}(j:ax):List (Sn×X)->List (Sn×ao)->Prop:=dC λo q=>o.1=q.1/\cq j o.2 q.2
def d_.mono{Sn:Type}{J:List (Sn×X)}{i:List (Sn×ao)}(y:pB j S)(d:d_ j J i):d_ S J i:=dC.u9 d λ_ W C=>⟨C.1,C.2.mono y⟩
structure d8(j S:ax):Prop where
 tup:pB j S
 cM:∀g m I,j g=Z (.cM m I)->S g=Z (.cM m I)
def kO(j:ax):List (List X×List X)->List (List X×ao)->List ag->Prop
 |[],Sq,R2=>Sq=[]/\R2=[]
 |o::u,Sq,R2=>∃e z H a,Sq=(o.1,.ref e)::H/\j e=Z (.lst z)/\bx j o.2 z/\kO j u H a/\R2=e::a
theorem kO.mono{j S:ax}(y:d8 j S):∀{J:List (List X×List X)}{Sq:List (List X×ao)}{R2:List ag},kO j J Sq R2->(∀g∈R2,∀m,j g=Z m->S g=Z m)->kO S J Sq R2
 |[],_,_,d,_=>d
 |o::u,Sq,R2,d,n=>by
  let⟨e,z,H,@a,c,t,A,b,rfl⟩:=d;exact⟨e,z,H,a,c,n e (.head _) _ t,A.mono y.tup,kO.mono y b λg f=>n g<|.tail _ f,rfl⟩
mutual
def b4(j:ax):ai->ao->List ag->Prop
 |.im x,s,N=>cq j x s/\N=[]
 |.ed,_,N=>N=[]
 |.cv E,s,N=>∃g z m,s=.ref g/\j g=Z (.cM m<|.lst z)/\bx j E z/\N=[]
 |.lst E,s,N=>∃g z,s=.ref g/\j g=Z (.lst z)/\bx j E z/\N=[g]
 |.dN R9,s,N=>∃g P,s=.ref g/\j g=Z (.dN P)/\d_ j R9 P/\N=[g]
 |.aO R9,s,N=>∃g P,s=.ref g/\j g=Z (.aO P)/\d_ j R9 P/\N=[g]
 |.hl E,s,N=>∃g z R2,s=.ref g/\j g=Z (.lst z)/\cN j E z R2/\N=g::R2
 |.o7 E,s,N=>∃g z,s=.ref g/\j g=Z (.tup z)/\cN j E z N
 |.eV R9,s,N=>∃g P m,s=.ref g/\j g=Z (.cM m<|.aO P)/\d_ j R9 P/\N=[]
 |.dL R9,s,N=>∃g P R2,s=.ref g/\j g=Z (.aO P)/\kO j R9 P R2/\N=g::R2
 |.uZ R E,s,N=>∃g P T R2,s=.ref g/\j g=Z (.dN P)/\(P.map (·.1)=R/\R.Nodup/\P.map (·.2)=T)/\cN j E T R2/\N=g::R2
 |.aS ae R E,s,N=>∃g SI P T R2,s=.ref g/\j g=Z (.ins ae SI P)/\(P.map (·.1)=R/\R.Nodup/\P.map (·.2)=T)/\cN j E T R2/\N=g::R2
def cN(j:ax):List ai->List ao->List ag->Prop
 |[],T,N=>T=[]/\N=[]
 |x::E,T,N=>∃s u Sg Sp,T=s::u/\b4 j x s Sg/\cN j E u Sp/\N=Sg++Sp
end
mutual
theorem b4.mono{j S:ax}(y:d8 j S):∀{x:ai}{s:ao}{N:List ag},b4 j x s N->(∀g∈N,∀m,j g=Z m->S g=Z m)->b4 S x s N
 |.im x,s,N,d,_=>⟨d.1.mono y.tup,d.2⟩
 |.ed,s,N,d,_=>d
 |.cv E,s,N,d,_=>by
  let⟨g,z,@m,rfl,t,A,rfl⟩:=d;exact⟨g,z,m,rfl,y.cM _ _ _ t,A.mono y.tup,rfl⟩
 |.lst E,s,N,d,n=>by
  let⟨g,@z,rfl,t,A,rfl⟩:=d;exact⟨g,z,rfl,n g (.head _) _ t,A.mono y.tup,rfl⟩
 |.dN R9,s,N,d,n=>by
  let⟨g,@z,rfl,t,A,rfl⟩:=d;exact⟨g,z,rfl,n g (.head _) _ t,A.mono y.tup,rfl⟩
 |.aO R9,s,N,d,n=>by
  let⟨g,@z,rfl,t,A,rfl⟩:=d;exact⟨g,z,rfl,n g (.head _) _ t,A.mono y.tup,rfl⟩
 |.hl E,s,N,d,n=>by
  let⟨g,z,@R2,rfl,t,A,rfl⟩:=d;exact⟨g,z,R2,rfl,n g (.head _) _ t,cN.mono y A λe a=>n e<|.tail _ a,rfl⟩
 |.o7 E,s,N,d,n=>by
  let⟨g,@z,rfl,t,A⟩:=d;exact⟨g,z,rfl,y.tup g z t,cN.mono y A n⟩
 |.eV R9,s,N,d,_=>by
  let⟨g,z,@m,rfl,t,A,rfl⟩:=d;exact⟨g,z,m,rfl,y.cM _ _ _ t,A.mono y.tup,rfl⟩
 |.dL R9,s,N,d,n=>by
  let⟨g,P,@R2,rfl,t,A,rfl⟩:=d;exact⟨g,P,R2,rfl,n g (.head _) _ t,A.mono y λe a=>n e<|.tail _ a,rfl⟩
 |.uZ R E,s,N,d,n=>by
  let⟨g,P,T,@R2,rfl,t,A,b,rfl⟩:=d;exact⟨g,P,T,R2,rfl,n g (.head _) _ t,A,cN.mono y b λe a=>n e<|.tail _ a,rfl⟩
 |.aS ae R E,s,N,d,n=>by
  let⟨g,SI,P,T,@R2,rfl,t,A,b,rfl⟩:=d;exact⟨g,SI,P,T,R2,rfl,n g (.head _) _ t,A,cN.mono y b λe a=>n e<|.tail _ a,rfl⟩
theorem cN.mono{j S:ax}(y:d8 j S):∀{E:List ai}{T:List ao}{N:List ag},cN j E T N->(∀g∈N,∀m,j g=Z m->S g=Z m)->cN S E T N
 |[],T,N,d,_=>d
 |x::E,T,N,d,n=>by
  let⟨s,u,Sg,@Sp,rfl,t,A,rfl⟩:=d;exact⟨s,u,Sg,Sp,rfl,b4.mono y t λg a=>n g<|ea _ a,cN.mono y A λg a=>n g<|di _ a,rfl⟩
end
def fp(j:ax)(g:ag):Prop:=(∃m,j g=Z m/\(∀z,m≠.tup z)/\∀o I,m≠.cM o I)
theorem kO.chg{j:ax}:∀{J:List (List X×List X)}{Sq:List (List X×ao)}{R2:List ag},kO j J Sq R2->∀g∈R2,fp j g
 |[],_,R2,d,g,a=>by rw[d.2]at a;cases a
 |o::u,Sq,R2,d,g,a=>by
  let⟨e,z,H,@f,c,t,A,b,rfl⟩:=d;rcases cc.mp a with rfl|a
  ·exact⟨_,t,(λ_ c=>by cases c),(λ_ W c=>by cases c)⟩
  ·exact kO.chg b g a
mutual
theorem b4.chg{j:ax}:∀{x:ai}{s:ao}{N:List ag},b4 j x s N->∀g∈N,fp j g
 |.im x,s,N,d,g,b=>by rw[d.2]at b;cases b
 |.ed,s,N,d,g,b=>by rw[show N=[] from d]at b;cases b
 |.cv E,s,N,d,e,a=>by
  let⟨g,z,@m,rfl,t,A,rfl⟩:=d;cases a
 |.lst E,s,N,d,e,a=>by
  let⟨g,@z,rfl,t,A,rfl⟩:=d;rw[cm.mp a];exact⟨_,t,(λ_ c=>by cases c),(λ_ W c=>by cases c)⟩
 |.dN R9,s,N,d,e,a=>by
  let⟨g,@z,rfl,t,A,rfl⟩:=d;rw[cm.mp a];exact⟨_,t,(λ_ c=>by cases c),(λ_ W c=>by cases c)⟩
 |.aO R9,s,N,d,e,a=>by
  let⟨g,@z,rfl,t,A,rfl⟩:=d;rw[cm.mp a];exact⟨_,t,(λ_ c=>by cases c),(λ_ W c=>by cases c)⟩
 |.hl E,s,N,d,e,a=>by
  let⟨g,z,@R2,rfl,t,A,rfl⟩:=d;rcases cc.mp a with rfl|a
  ·exact⟨_,t,(λ_ c=>by cases c),(λ_ W c=>by cases c)⟩
  ·exact cN.chg A e a
 |.o7 E,s,N,d,e,a=>by
  let⟨g,@z,rfl,t,A⟩:=d;exact cN.chg A e a
 |.eV R9,s,N,d,e,a=>by
  let⟨g,z,@m,rfl,t,A,rfl⟩:=d;cases a
 |.dL R9,s,N,d,e,a=>by
  let⟨g,P,@R2,rfl,t,A,rfl⟩:=d;rcases cc.mp a with rfl|a
  ·exact⟨_,t,(λ_ c=>by cases c),(λ_ W c=>by cases c)⟩
  ·exact A.chg e a
 |.uZ R E,s,N,d,e,a=>by
  let⟨g,P,T,@R2,rfl,t,A,f,rfl⟩:=d;rcases cc.mp a with rfl|a
  ·exact⟨_,t,(λ_ c=>by cases c),(λ_ W c=>by cases c)⟩
  ·exact cN.chg f e a
 |.aS ae R E,s,N,d,e,a=>by
  let⟨g,SI,P,T,@R2,rfl,t,A,f,rfl⟩:=d;rcases cc.mp a with rfl|a
  ·exact⟨_,t,(λ_ c=>by cases c),(λ_ W c=>by cases c)⟩
  ·exact cN.chg f e a
theorem cN.chg{j:ax}:∀{E:List ai}{T:List ao}{N:List ag},cN j E T N->∀g∈N,fp j g
 |[],T,N,d,g,a=>by rw[d.2]at a;cases a
 |x::E,T,N,d,g,a=>by
  let⟨s,u,Sg,@Sp,rfl,t,A,rfl⟩:=d;rcases dJ.mp a with a|a
  ·exact b4.chg t g a
  ·exact cN.chg A g a
end
theorem cN.length:∀{E:List ai}{T:List ao}{N:List ag},cN j E T N->E.length=T.length
 |[],T,N,d=>by rw[d.1];rfl
 |x::E,T,N,d=>by
  let⟨s,u,Sg,@Sp,rfl,t,A,rfl⟩:=d;rw[dA,dA,A.length]
theorem bx.length:∀{E:List X}{T:List ao},bx j E T->E.length=T.length
 |[],T,d=>by rw[show T=[] from d];rfl
 |x::E,T,d=>by
  let⟨s,@u,rfl,t,A⟩:=d;rw[dA,dA,A.length]
def lJ(j:ax):Option ai->Option ao->List ag->Prop
 |none,_,N=>N=[]
 |some x,f,N=>∃s,f=Z s/\b4 j x s N
def bc(j:ax):aW->aZ->List ag->Prop
 |[],w,N=>w=[]/\N=[]
 |m::k,w,N=>∃f u Sg Sp,w=f::u/\lJ j m f Sg/\bc j k u Sp/\N=Sg++Sp
structure a4(j:ax)(N:List ag)(S:ax)(SA:List ag):Prop where
 keep:∀g m,j g=Z m->g∉N->S g=Z m
 sub:∀g∈SA,g∈N\/j g=V
 aj:SA.Nodup
 tup:d8 j S
 grow:∀g m,j g=Z m->∃SG,S g=Z SG
theorem lJ.mono(y:d8 j S):∀{m:Option ai}{f:Option ao}{N:List ag},lJ j m f N->(∀g∈N,∀m,j g=Z m->S g=Z m)->lJ S m f N
 |none,_,_,d,_=>d
 |some x,f,N,d,n=>by
  let⟨@s,rfl,d⟩:=d;exact⟨s,rfl,d.mono y n⟩
theorem bc.mono{j S:ax}(y:d8 j S):∀{k:aW}{w:aZ}{N:List ag},bc j k w N->(∀g∈N,∀m,j g=Z m->S g=Z m)->bc S k w N
 |[],w,N,d,_=>d
 |m::k,w,N,d,n=>by
  let⟨f,u,Sg,@Sp,rfl,t,A,rfl⟩:=d;exact⟨f,u,Sg,Sp,rfl,t.mono y λg a=>n g<|ea _ a,bc.mono y A λg a=>n g<|di _ a,rfl⟩
theorem lJ.chg:∀{m:Option ai}{f:Option ao}{N:List ag},lJ j m f N->∀g∈N,fp j g
 |none,_,N,d,g,a=>by rw[show N=[] from d]at a;cases a
 |some x,f,N,d,g,a=>by
  let⟨@s,rfl,d⟩:=d;exact d.chg g a
theorem bc.chg{j:ax}:∀{k:aW}{w:aZ}{N:List ag},bc j k w N->∀g∈N,fp j g
 |[],w,N,d,g,a=>by rw[d.2]at a;cases a
 |m::k,w,N,d,g,a=>by
  let⟨f,u,Sg,@Sp,rfl,t,A,rfl⟩:=d;rcases dJ.mp a with a|a
  ·exact t.chg g a
  ·exact bc.chg A g a
theorem bc.len{j:ax}:∀{k:aW}{w:aZ}{N:List ag},bc j k w N->k.length=w.length
 |[],w,N,d=>by rw[d.1];rfl
 |m::k,w,N,d=>by
  let⟨f,u,Sg,@Sp,rfl,t,A,rfl⟩:=d;rw[dA,dA,bc.len A]
def ai.eJ:ai->Bool
 |.im _=>aa
 |.cv _=>aa
 |.eV _=>aa
 |_=>ay
def b4.eJ(d:b4 j x s N)(p:x.eJ=aa):N=[]:=by
 cases x with
 |im x=>exact d.2
 |cv E=>let⟨g,z,@m,rfl,t,A,rfl⟩:=d;rfl
 |eV E=>let⟨g,z,@m,rfl,t,A,rfl⟩:=d;rfl
 |_=>cases p
theorem bc.out{j:ax}:∀{k:aW}{w:aZ}{N:List ag}{a:Nat}{x:ai},bc j k w N->k[a]?=Z (Z x)->∃s Sg Sp,w[a]?=Z (Z s)/\b4 j x s Sg/\bc j (k.set a<|Z .ed) w Sp/\(Sp++Sg).Perm N
 |[],w,N,a,x,d,c=>by simp at c
 |m::k,w,N,0,x,d,c=>by
  let⟨f,u,Sg,@Sp,rfl,t,A,rfl⟩:=d;simp at c;subst c;let⟨@s,rfl,t⟩:=t;exact⟨s,Sg,Sp,rfl,t,⟨Z s,u,[],Sp,rfl,⟨s,rfl,rfl⟩,A,rfl⟩,cW⟩
 |m::k,w,N,a+1,x,d,c=>by
  let⟨f,u,Sg,@Sp,rfl,t,A,rfl⟩:=d;let⟨s,e,@b,g,h,i,l⟩:=bc.out (a:=a) A ⇑c;refine⟨s,e,Sg++b,by simpa using g,h,⟨f,u,Sg,b,rfl,t,i,rfl⟩,?_⟩;rw[bg];exact dp _ l
theorem bc.put{j:ax}:∀{k:aW}{w:aZ}{N:List ag}{a:Nat}{x:ai}{s:ao}{R2:List ag},bc j k w N->b4 j x s R2->a<k.length->∃Sg Sp,bc j (k.set a<|Z x) (w.set a<|Z s) Sg/\(Sg++Sp).Perm (N++R2)
 |[],w,N,a,x,s,R2,d,H,J=>by simp at J
 |m::k,w,N,0,x,s,R2,d,H,J=>by
  let⟨f,u,Sg,@Sp,rfl,t,A,rfl⟩:=d;refine⟨R2++Sp,Sg,⟨Z s,u,R2,Sp,rfl,⟨s,rfl,H⟩,A,rfl⟩,?_⟩;refine cW.trans ?_;rw[bg];exact dp _ cW
 |m::k,w,N,a+1,x,s,R2,d,H,J=>by
  let⟨f,u,Sg,@Sp,rfl,t,A,rfl⟩:=d;let⟨b,@c,e,g⟩:=bc.put (a:=a) A H ⇑J;refine⟨Sg++b,c,⟨f,_,Sg,b,rfl,t,e,rfl⟩,?_⟩;rw[bg,bg];exact dp _ g
def bc.eJ{a:Nat}(d:bc j k w N)(c:k[a]?=Z (Z x))(p:x.eJ=aa):∃s,w[a]?=Z (Z s)/\b4 j x s []:=by
 let⟨s,Sg,@Sp,e,b,W⟩:=d.out c;obtain rfl:=b.eJ p;exact⟨s,e,b⟩
def Jt{a:Nat}(d:w[a]?=Z (Z s)):w.set a (Z s)=w:=by
 refine oY λr=>?_;by_cases c:a=r
 ·subst c;rw[d,rU (e4.mp d).1]
 ·rw[nu c]
def bc.back{a:Nat}(d:bc j k w N)(H:b4 j x s R2)(b:w[a]?=Z (Z s)):∃Sg Sp,bc j (k.set a<|Z x) w Sg/\(Sg++Sp).Perm (N++R2):=by
 have J:a<k.length:=by rw[d.len];exact (e4.mp b).1
 let⟨Sg,@Sp,t,A⟩:=d.put (a:=a) H J;rw[Jt b]at t;exact⟨Sg,Sp,t,A⟩
def d8.of(F:n3 j S)(L:∀g m I,j g=Z (.cM m I)->S g=Z (.cM m I)):d8 j S:=⟨⟨F,L⟩,L⟩
def Qs(j:ax):d8 j j:=⟨⟨λ_ W c=>c,λ_ W W c=>c⟩,λ_ W W c=>c⟩
def d8.trans(g:d8 j R5)(e:d8 R5 Sf):d8 j Sf:=⟨⟨λf z c=>e.tup.t f z<|g.tup.t f z c,λf m I c=>e.cM f m I<|g.cM f m I c⟩,λf m I c=>e.cM f m I<|g.cM f m I c⟩
def a4.refl(d:SA.Nodup)(h:∀g∈SA,g∈N):a4 j N j SA:=⟨λ_ W c W=>c,λg a=>.inl<|h g a,d,Qs j,λ_ m c=>⟨m,c⟩⟩
def a4.perm(d:N.Nodup)(o:SA.Perm N):a4 j N j SA:=a4.refl ((o.nodup_iff).mpr d) λg a=>o.mem_iff.mp a
def a4.trans(g:a4 j N R5 (Sg++R1))(e:a4 R5 Sg Sf Sp)(i:∀f∈R1,fp R5 f):a4 j N Sf (Sp++R1):=by
 have aj:=c1.mp g.aj;have k:∀f∈Sp,f∉R1:=λf a h=>by
  rcases e.sub f a with d|d
  ·exact aj.2.2 f d f h rfl
  ·let⟨@m,c,W⟩:=i f h;rw[c]at d;cases d
 refine⟨λf m c a=>?_,λf a=>?_,c1.mpr ⟨e.aj,aj.2.1,λf a D l c=>k f a<|c ▸ l⟩,g.tup.trans e.tup,λf m c=>let ⟨SG,b⟩:=g.grow f m c;e.grow f SG b⟩
 ·refine e.keep f m (g.keep f m c a) λt=>?_;rcases g.sub f (ea _ t) with d|d
  ·exact a d
  ·rw[c]at d;cases d
 ·rcases dJ.mp a with a|a
  ·rcases e.sub f a with d|d
   ·exact g.sub f (ea _ d)
   ·refine .inr ?_;cases c:j f with
    |none=>rfl
    |some m=>
     let⟨@SG,b⟩:=g.grow f m c;rw[b]at d;cases d
  ·exact g.sub f (di _ a)
def cI.tupS(h:cI j S):d8 j S:=⟨⟨λg z c=>h g _ c,λg m I c=>h g _ c⟩,λg m I c=>h g _ c⟩
def y5{g e:ag}{m I:eZ}(c:j e=Z m)(d:j g=V):L2.upd j g I e=Z m:=by rw[b9 (jE c d)];exact c
def cI.upd(h:cI j S){g:ag}{m:eZ}(d:S g=V):cI j (L2.upd S g m):=λe I c=>y5 (h e I c) d
abbrev aA(Sj:Type):=aW->Option (Sj×aW)
variable{Ts:aA ai}{Tc:aA Bool}
inductive bz where
 | bJ (a:Nat)
 | cU (x:ai)
variable{SV S2:aA bz}{L:aA (List bz)}
def du(k:aW):bz->Option ai
 |.bJ a=>(k[a]?).getD V
 |.cU x=>Z x
def g_(j:ax)(w:aZ):bz->ao->List ag->Prop
 |.bJ a,s,R1=>w[a]?=Z (Z s)/\R1=[]
 |.cU x,s,R1=>b4 j x s R1
def lH(L:aA ai):bZ:=(λw j B=>∃k N u Sl,bc j k w N/\N.Nodup/\L k=Z (u,Sl)/\∀s S SA R1,bc S Sl w SA->b4 S u s R1->a4 j N S (SA++R1)->B s S)
def l6(L:aA bz):bZ:=(λw j B=>∃k N u Sl,bc j k w N/\N.Nodup/\L k=Z (u,Sl)/\∀s S SA R1,bc S Sl w SA->g_ S w u s R1->a4 j N S (SA++R1)->B s S)
def jT(L:aA Bool):ei:=(λw j B=>∃k N e Sl,bc j k w N/\N.Nodup/\L k=Z (e,Sl)/\∀S SA,bc S Sl w SA->a4 j N S SA->B e S)
def cF(b:aJ)(c:bj)(L:aA ai):Prop:=(∀ ⦃o⦄,yJ b c (lH L) o)
def dm(b:aJ)(c:bj)(L:aA bz):Prop:=(∀ ⦃o⦄,yJ b c (l6 L) o)
def jb(b:aJ)(c:bj)(L:aA Bool):Prop:=(∀ ⦃o⦄,AG b c (jT L) o)
def eB{y Sw:bZ}(d:bH b c y)(a:∀w j B,Sw w j B->y w j B):bH b c Sw:=λG h w j B l e=>d G h w j B l (a w j B e)
def A8{y:ei}(d:ih b c y)(a:∀w j B,Sw w j B->y w j B):ih b c Sw:=λG h w j B l e=>d G h w j B l (a w j B e)
def g_.mono{u:bz}(d:g_ j w u s R1)(y:d8 j S)(n:∀g∈R1,∀m,j g=Z m->S g=Z m):g_ S w u s R1:=by
 cases u with
 |bJ a=>exact d
 |cU x=>exact b4.mono y d n
def g_.chg{u:bz}(d:g_ j w u s R1):∀g∈R1,fp j g:=by
 cases u with
 |bJ a=>intro g b;rw[d.2]at b;cases b
 |cU x=>exact b4.chg d
def eu(j:ax)(x:ai)(s:ao):Prop:=(∃R1,b4 j x s R1)
def g_.read{u:bz}(d:g_ j w u s R1)(Y:bc j k w N)(c:du k u=Z x):eu j x s:=by
 cases u with
 |cU g=>cases c;exact⟨R1,d⟩
 |bJ a=>
  have e:k[a]?=Z (Z x):=by
   have:(k[a]?).getD V=Z x:=c;cases q:k[a]? with
   |none=>rw[q]at this;cases this
   |some m=>rw[q]at this;rw[show m=Z x from this]
  let⟨h,Sg,@Sp,b,f,W⟩:=Y.out e;rw[d.1]at b;cases b;exact⟨Sg,f⟩
@[simp] def fF(a:Nat):aA ai:=λk=>match k[a]? with
 |some (Z x)=>if x.eJ=aa then Z (x,k) else Z (x,k.set a<|Z .ed)
 |_=>V
def aF(x:X):aA ai:=(λk=>Z (.im x,k))
@[simp] def aq(a:Nat):aA bz:=λk=>match k[a]? with
 |some (Z _)=>Z (.bJ a,k)
 |_=>V
@[simp] def af(L:aA ai):aA bz:=λk=>(L k).map λo=>(.cU o.1,o.2)
section
variable{b:aJ}
variable{a:Nat}
def jt(d:bH b c (hF a)):cF b c (fF a):=by
 refine eB d λw j B g=>?_;let⟨k,N,u,@Sl,Y,aj,e,q⟩:=g;unfold fF at e;split at e
 ·rename_i x f;split at e
  ·rename_i h;cases e;let⟨@s,t,A⟩:=Y.eJ f h;exact⟨s,t,q s j N [] Y A (by rw[bR];exact a4.perm aj (List.Perm.refl _))⟩
  ·cases e;let⟨s,Sg,@Sp,t,A,i,l⟩:=Y.out f;exact⟨s,t,q s j Sp Sg i A<|a4.perm aj l⟩
 ·cases e
def M5(d:bH b c (hF a)):dm b c (aq a):=by
 refine eB d λw j B f=>?_;let⟨k,N,u,@Sl,Y,aj,e,q⟩:=f;unfold aq at e;split at e
 ·rename_i x g;cases e;let⟨s,Sg,@Sp,t,A,h,i⟩:=Y.out g;exact⟨s,t,q s j N [] Y ⟨t,rfl⟩ (by rw[bR];exact a4.perm aj (List.Perm.refl _))⟩
 ·cases e
def bw{L:aA ai}(d:cF b c L):dm b c (af L):=by
 refine eB d λw j B e=>?_;let⟨k,N,u,@Sl,Y,aj,a,q⟩:=e;unfold af at a;let⟨@⟨SW,R_⟩,t,A⟩:=cB.mp a;cases A;exact⟨k,N,SW,_,Y,aj,t,q⟩
def tY{x:X}(d:bH b c (r3 s))(a:∀j,cq j x s):cF b c (aF x):=by
 refine eB d λw j B e=>?_;let⟨k,N,u,@Sl,Y,aj,f,q⟩:=e;cases f;exact q s j N [] Y ⟨a j,rfl⟩ (by rw[bR];exact a4.perm aj (List.Perm.refl _))
def me{a:Int}{r Sd}:cF b (.Constant (.int a) r Sd) (aF<|.int a):=tY Qp λ_=>rfl
def jL{e:Bool}{r Sd}:cF b (.Constant (.bool e) r Sd) (aF<|.aN e):=tY IY λ_=>rfl
def two{R_ Sv:aW}{f D:bz}{Q:ao->ao->ax->Prop}(Y:bc j k w N)(aj:N.Nodup)(b:S2 k=Z (f,R_))(l:SV R_=Z (D,Sv))(n:∀s I S SA a bB,bc S Sv w SA->g_ S w f s a->g_ S w D I bB->a4 j N S ((SA++bB)++a)->Q s I S):l6 S2 w j λs R5=>l6 SV w R5 λI Sf=>Q s I Sf:=by
 refine⟨k,N,f,R_,Y,aj,b,λs R5 Sg a o i e=>⟨R_,Sg,D,Sv,o,(c1.mp e.aj).1,l,λI Sf Sp bB p SE h=>?_⟩⟩;refine n s I Sf Sp a bB p (i.mono h.tup λg b m c=>h.keep g m c λd=>?_) SE (e.trans h i.chg);exact (c1.mp e.aj).2.2 g d g b rfl
def a4.new{d:List ag}(g:a4 j N R5 (Sg++R1))(h:cI R5 Sf)(aj:d.Nodup)(e:∀f∈d,R5 f=V)(p:∀f∈Sg,fp R5 f):a4 j N Sf (Sg++d):=by
 refine⟨λf m c a=>h _ _<|g.keep f m c a,λf a=>?_,c1.mpr ⟨(c1.mp g.aj).1,aj,λf a D i c=>?_⟩,g.tup.trans h.tupS,λf m c=>let ⟨SG,b⟩:=g.grow f m c;⟨SG,h _ _ b⟩⟩
 ·rcases dJ.mp a with a|a
  ·exact g.sub f (ea _ a)
  ·refine .inr ?_;cases c:j f with
   |none=>rfl
   |some m=>
    let⟨@SG,b⟩:=g.grow f m c;rw[e f a]at b;cases b
 ·subst c;let⟨@m,c,W⟩:=p f a;rw[e f i]at c;cases c
def ff(b:aJ)(F:ab->ab->c8 ab)(SJ:ai->ai->Option ai):Prop:=(
 dO b F λf D j B=>∃Sx SK x,eu j Sx f/\eu j SK D/\SJ Sx SK=Z x/\∀s S R1,cI j S->b4 S x s R1->R1.Nodup->(∀g∈R1,j g=V)->B s S)
@[simp] def az(SJ:ai->ai->Option ai)(S2 SV:aA bz):aA ai:=λk=>(S2 k).bind λo=>(SV o.2).bind λq=>(du q.2 o.1).bind λSx=>(du q.2 q.1).bind λSK=>(SJ Sx SK).map λx=>(x,q.2)
def tu{SJ:ai->ai->Option ai}(d:lH (az SJ S2 SV) w j B):
  l6 S2 w j λf R5=>l6 SV w R5 λD Sf=>∃Sx SK x,eu Sf Sx f/\eu Sf SK D/\SJ Sx SK=Z x/\∀s S R1,cI Sf S->b4 S x s R1->R1.Nodup->(∀g∈R1,Sf g=V)->B s S:=by
 let⟨k,N,u,@Sl,Y,aj,a,q⟩:=d;unfold az at a;let⟨@⟨f,R_⟩,i,a⟩:=bu.mp a;let⟨@⟨D,Sv⟩,l,a⟩:=bu.mp a;let⟨@Sx,t,a⟩:=bu.mp a;let⟨@SK,A,a⟩:=bu.mp a;let⟨@x,n,a⟩:=cB.mp a;cases a;refine two Y aj i l λs I Sf Sp y bB b o SE h=>⟨Sx,SK,_,o.read b t,SE.read b A,n,λH p R1 e Su r v=>?_⟩;rw[bg]at h;exact q H p Sp R1 (b.mono e.tupS λg W m c=>e g m c) Su (h.new e r v b.chg)
def km{SJ:xx}(a:ff b (fH SJ) F)(c:dm b g S2)(f:dm b e SV):cF b (.BinOp g SJ e Sd) (az F S2 SV):=
 eB (KS a c f) λ_ W W d=>tu d
variable{SJ:kv}
def Ai(a:ff b (ej SJ) F)(c:dm b g S2)(f:dm b e SV)(h:n6 SJ e=ay):cF b (.Compare g [SJ] [e] Sd) (az F S2 SV):=
 eB (Rf a c f h) λ_ W W d=>tu d
def ie(a:gY b (λf D j B=>∃Sx SK x,eu j Sx f/\eu j SK D/\F Sx SK=Z x/\∀s S R1,cI j S->b4 S x s R1->R1.Nodup->(∀g∈R1,j g=V)->B s S))(c:dm b g S2)(h:dm b e SV)(R6:uo e):cF b (.Subscript g e Sd) (az F S2 SV):=
 eB (Qk a c h R6) λ_ W W d=>tu d
@[simp] def jN:ai->Option Bool
 |.im (.aN e)=>Z e
 |_=>V
@[simp] def bS(L:aA ai):aA Bool:=λk=>(L k).bind λo=>(jN o.1).map λe=>(e,o.2)
def tD{e:Bool}(d:jN x=Z e):x=.im (.aN e):=by
 unfold jN at d;split at d
 ·cases d;rfl
 ·cases d
def e3(a:ff b (ej SJ) F)(c:dm b g S2)(d:dm b e SV)(f:n6 SJ e=ay):jb b (.Compare g [SJ] [e] Sd) (bS<|az F S2 SV):=by
 refine A8 (IV a c d f) λw j B i=>?_;let⟨k,N,p,@Sl,Y,aj,l,q⟩:=i;refine tu ⟨k,N,.im<|.aN p,Sl,Y,aj,?_,λs S SA R1 m Su h=>⟨p,Su.1,q S SA m (by rw[Su.2,bR]at h;exact h)⟩⟩;let⟨@o,t,A⟩:=bu.mp l;let⟨@u,n,r⟩:=cB.mp A;cases r;rw[t,<-tD n]
@[simp] def gZ(L d:aA Bool):aA Bool:=λk=>(L k).bind λo=>if o.1=aa then d o.2 else Z (ay,o.2)
@[simp] def ju(L d:aA Bool):aA Bool:=λk=>(L k).bind λo=>if o.1=aa then Z (aa,o.2) else d o.2
variable{L d:aA Bool}{B:Bool->ax->Prop}
def Ob(H:jT (gZ L d) w j B):A9 (jT L) (jT d) w j B:=by
 let⟨k,N,p,@Sl,Y,aj,c,q⟩:=H;let⟨@⟨e,R_⟩,t,A⟩:=bu.mp c;refine⟨k,N,e,R_,Y,aj,t,λR5 Sg b a=>?_⟩;cases e with
 |true=>
  rw[aD rfl];rw[aD rfl]at A;exact⟨R_,Sg,p,Sl,b,a.aj,A,λSf Sp g h=>q Sf Sp g (by
   have:=a4.trans (R1:=[]) (by rw[bR];exact a) h (λf i=>nomatch i)
   rwa [bR]at this)⟩
 |false=>
  rw[aG c4]at A ⊢;cases A;exact q R5 Sg b a
def GR(H:jT (ju L d) w j B):B6 (jT L) (jT d) w j B:=by
 let⟨k,N,p,@Sl,Y,aj,c,q⟩:=H;let⟨@⟨e,R_⟩,t,A⟩:=bu.mp c;refine⟨k,N,e,R_,Y,aj,t,λR5 Sg b a=>?_⟩;cases e with
 |false=>
  rw[aG c4]at A ⊢;exact⟨R_,Sg,p,Sl,b,a.aj,A,λSf Sp g h=>q Sf Sp g (by
   have:=a4.trans (R1:=[]) (by rw[bR];exact a) h (λf i=>nomatch i)
   rwa [bR]at this)⟩
 |true=>
  rw[aD rfl]at A ⊢;cases A;exact q R5 Sg b a
def hQ(b:aJ)(c:bj)(L:aA Bool):Prop:=(∀ ⦃o⦄,D0 b c (jT L) o)
def E7{y:ei}(d:jg b c y)(a:∀w j B,Sw w j B->y w j B):jg b c Sw:=λe G h w j B l f=>d e G h w j B l (a w j B f)
def DQ(d:jb b g L):hQ b (.BoolOp .And [g] Sd) L:=LQ d
def tI(d:jb b g L):hQ b (.BoolOp .Or [g] Sd) L:=KN d
variable{n:aA Bool}
def vT(d:jb b g L)(a:hQ b (.BoolOp .And (e::u) Sd) n):hQ b (.BoolOp .And (g::e::u) Sd) (gZ L n):=E7 (Ov d a) λ_ W W H=>Ob H
def oU(d:jb b g L)(a:hQ b (.BoolOp .Or (e::u) Sd) n):hQ b (.BoolOp .Or (g::e::u) Sd) (ju L n):=E7 (Qz d a) λ_ W W H=>GR H
def hQ.pw(d:hQ b c L):jb b c L:=jg.pt d
@[simp] def k5(p:aA Bool)(g e:aA ai):aA ai:=λk=>(p k).bind λo=>if o.1=aa then g o.2 else e o.2
def a4.seq(g:a4 j N R5 Sg)(e:a4 R5 Sg Sf Sp):a4 j N Sf Sp:=by
 have:=a4.trans (R1:=[]) (by rw[bR];exact g) e (λf a=>nomatch a)
 rwa [bR]at this
def z7{S2 SV:aA ai}(h:jb b p Tc)(i:cF b g S2)(l:cF b e SV):cF b (.IfExp p g e Sd) (k5 Tc S2 SV):=by
 refine eB (Jw h i l) λw j B m=>?_;let⟨k,N,u,@Sl,Y,aj,n,q⟩:=m;let⟨@⟨y,R_⟩,t,A⟩:=bu.mp n;refine⟨k,N,y,R_,Y,aj,t,λR5 Sg f a=>?_⟩;cases y with
 |true=>
  rw[aD rfl]at A ⊢;exact⟨R_,Sg,u,Sl,f,a.aj,A,λs Sf Sp R1 c Su d=>q s Sf Sp R1 c Su<|a.seq d⟩
 |false=>
  rw[aG c4]at A ⊢;exact⟨R_,Sg,u,Sl,f,a.aj,A,λs Sf Sp R1 c Su d=>q s Sf Sp R1 c Su<|a.seq d⟩
end
def j5(j:ax)(w:aZ):List bz->List ao->List ag->Prop
 |[],T,R1=>T=[]/\R1=[]
 |m::M,T,R1=>∃s u a bB,T=s::u/\g_ j w m s a/\j5 j w M u bB/\R1=a++bB
def g6(L:aA (List bz)):ew:=(λw j B=>∃k N u Sl,bc j k w N/\N.Nodup/\L k=Z (u,Sl)/\∀T S SA R1,bc S Sl w SA->j5 S w u T R1->a4 j N S (SA++R1)->B T S)
def fw(b:aJ)(U:List bj)(L:aA (List bz)):Prop:=(∀ ⦃o⦄,Cg b U (g6 L) o)
def CL{y Sw:ew}(d:gS b U y)(a:∀w j B,Sw w j B->y w j B):gS b U Sw:=λSd G h w j B l c=>d Sd G h w j B l (a w j B c)
def aH:aA (List bz):=(λk=>Z ([],k))
@[simp] def av(L:aA bz)(d:aA (List bz)):aA (List bz):=λk=>(L k).bind λo=>(d o.2).map λq=>(o.1::q.1,q.2)
def a4.iZ(h:a4 j N S O)(o:O.Perm SM):a4 j N S SM:=⟨h.keep,λg a=>h.sub g<|o.mem_iff.mpr a,(o.nodup_iff).mp h.aj,h.tup,h.grow⟩
def a4.less(h:a4 j N S O)(o:(SM++ae).Perm O):a4 j N S SM:=
 ⟨h.keep,λg a=>h.sub g<|o.mem_iff.mp<|ea _ a,(c1.mp<|(o.nodup_iff).mpr h.aj).1,h.tup,h.grow⟩
section
variable{b:aJ}
def oN:fw b [] aH:=by
 refine CL yG λw j B a=>?_;let⟨k,N,u,@Sl,Y,aj,c,q⟩:=a;cases c;exact q [] j N [] Y ⟨rfl,rfl⟩ (by rw[bR];exact a4.perm aj (List.Perm.refl _))
def q7{L:aA bz}{d:aA (List bz)}(l:dm b c L)(n:fw b U d)(R6:bC (c::U) b.env=(ay,bK c b.env)::bC U b.env:=by rfl):fw b (c::U) (av L d):=by
 refine CL (uA l n R6) λw j B o=>?_;let⟨k,N,u,@Sl,Y,aj,p,q⟩:=o;let⟨@⟨f,R_⟩,t,A⟩:=bu.mp p;let⟨@⟨Sh,Sv⟩,r,v⟩:=cB.mp A;cases v;refine⟨k,N,f,R_,Y,aj,t,λs R5 Sg h x i a=>⟨R_,Sg,Sh,_,x,(c1.mp a.aj).1,r,λT Sf Sp bB y SE e=>?_⟩⟩;refine q (s::T) Sf Sp (h++bB) y ⟨s,T,h,bB,rfl,i.mono e.tup λg z m c=>e.keep g m c λd=>?_,SE,rfl⟩ ((a.trans e i.chg).iZ ?_)
 ·exact (c1.mp a.aj).2.2 g d g z rfl
 ·rw[bg];exact dp _ cW
end
def ht(k:aW):List bz->Option (List ai)
 |[]=>Z []
 |m::M=>(du k m).bind λx=>(ht k M).map λE=>x::E
def lI(j:ax):List ai->List ao->Prop
 |[],T=>T=[]
 |x::E,T=>∃s u,T=s::u/\eu j x s/\lI j E u
theorem j5.read{j:ax}{k:aW}{w:aZ}{N:List ag}(Y:bc j k w N):∀{M:List bz}{T:List ao}{R1:List ag}{E:List ai},j5 j w M T R1->ht k M=Z E->lI j E T
 |[],_,_,_,d,c=>by cases c;exact d.1
 |m::M,_,_,_,d,c=>by
  let⟨s,u,g,@bB,rfl,t,A,rfl⟩:=d;let⟨@x,a,b⟩:=bu.mp c;let⟨@E,e,f⟩:=cB.mp b;cases f;exact⟨s,u,rfl,t.read Y a,j5.read Y A e⟩
def d2:List bz->aW->Option (List ai×aW)
 |[],k=>Z ([],k)
 |.cU x::M,k=>(d2 M k).map λo=>(x::o.1,o.2)
 |.bJ a::M,k=>(fF a k).bind λo=>(d2 M o.2).map λq=>(o.1::q.1,q.2)
def GH{a:Nat}(Y:bc j k w N)(d:fF a k=Z (x,Sl)):∃s Sg R1,w[a]?=Z (Z s)/\b4 j x s R1/\bc j Sl w Sg/\(Sg++R1).Perm N:=by
 unfold fF at d;split at d
 ·rename_i c b;split at d
  ·rename_i e;cases d;let⟨@s,t,A⟩:=Y.eJ b e;exact⟨s,N,[],t,A,Y,by rw[bR]⟩
  ·cases d;let⟨s,Sg,@Sp,t,A,f,g⟩:=Y.out b;exact⟨s,Sp,Sg,t,A,f,g⟩
 ·cases d
def kl:(O++(SM++ae)).Perm (SM++(O++ae)):=by
 rw[<-bg,<-bg];exact eo _ cW
theorem l5{j:ax}{w:aZ}:∀{M:List bz}{T:List ao}{R1 N:List ag}{k Sl:aW}{E:List ai},bc j k w N->j5 j w M T R1->d2 M k=Z (E,Sl)->∃Sg b,bc j Sl w Sg/\cN j E T b/\(Sg++b).Perm (N++R1)
 |[],_,_,N,_,_,_,Y,d,c=>by
  cases c;exact⟨N,[],Y,⟨d.1,rfl⟩,by rw[d.2]⟩
 |.cU x::M,_,_,N,k,_,_,Y,d,c=>by
  let⟨s,u,b,@bB,rfl,t,A,rfl⟩:=d;rw[d2]at c;let⟨@o,g,h⟩:=cB.mp c;cases h;let⟨Sg,@e,f,i,l⟩:=l5 (Sl:=o.2) (E:=o.1) Y A g;exact⟨Sg,b++e,f,⟨s,u,b,e,rfl,t,i,rfl⟩,kl.trans<|(dp _ l).trans kl⟩
 |.bJ a::M,_,_,N,k,_,_,Y,d,c=>by
  let⟨s,u,b,@bB,rfl,@⟨t,rfl⟩,A,rfl⟩:=d;rw[d2]at c;let⟨@⟨x,R_⟩,n,p⟩:=bu.mp c;let⟨@o,g,h⟩:=cB.mp p;cases h;let⟨z,Sg,@e,f,i,l,q⟩:=GH Y n;rw[t]at f;cases f;let⟨Sp,@m,r,v,y⟩:=l5 (Sl:=o.2) (E:=o.1) l A g;refine⟨Sp,e++m,r,⟨s,u,e,m,rfl,i,v,rfl⟩,kl.trans<|(dp _ y).trans ?_⟩;rw[<-bg];exact eo _ (cW.trans q)
@[simp] def g4:List bz->List ai->aW->aW
 |.bJ a::M,x::E,k=>g4 M E (match k[a]? with|some (Z .ed)=>k.set a (Z x)|_=>k)
 |.cU _::M,_::E,k=>g4 M E k
 |_,_,k=>k
theorem rk{j h:ax}{w:aZ}:∀{M:List bz}{E:List ai}{T:List ao}{R1 N Se:List ag}{k:aW},bc j k w N->j5 h w M T Se->cN j E T R1->∃Sg b,bc j (g4 M E k) w Sg/\(Sg++b).Perm (N++R1)
 |[],E,_,R1,N,_,k,Y,_,_=>⟨N,R1,by unfold g4;exact Y,List.Perm.refl _⟩
 |.cU _::M,[],_,R1,N,_,k,Y,_,_=>⟨N,R1,by unfold g4;exact Y,List.Perm.refl _⟩
 |.bJ _::M,[],_,R1,N,_,k,Y,_,_=>⟨N,R1,by unfold g4;exact Y,List.Perm.refl _⟩
 |.cU _::M,x::E,_,R1,N,_,k,Y,d,H=>by
  let⟨s,u,i,@l,rfl,t,A,rfl⟩:=d;let⟨m,SW,b,@bB,c,cw,cp,rfl⟩:=H;cases c;let⟨Sg,@e,f,g⟩:=rk (k:=k) Y A cp;refine⟨Sg,b++e,by rw[g4];exact f,kl.trans<|(dp _ g).trans kl⟩
 |.bJ a::M,x::E,_,R1,N,_,k,Y,d,H=>by
  let⟨s,u,i,@l,rfl,@⟨t,W⟩,A,rfl⟩:=d;let⟨m,SW,b,@bB,c,cw,cp,rfl⟩:=H;cases c;rw[g4];split
  ·let⟨Sg,@R2,f,g⟩:=Y.back cw t;let⟨Sp,@e,n,o⟩:=rk f A cp;refine⟨Sp,e++R2,n,?_⟩;rw[<-bg,<-bg];refine (eo _ o).trans ?_;rw[bg];refine (dp _ cW).trans ?_;rw[<-bg];exact eo _ g
  ·let⟨Sg,@e,f,g⟩:=rk Y A cp;exact⟨Sg,b++e,f,kl.trans<|(dp _ g).trans kl⟩
def fV:List ai->Option (List X)
 |[]=>Z []
 |.im x::E=>(fV E).map λu=>x::u
 |_::_=>V
@[simp] def qq(E:List ai):ai:=match fV E with
 |some is=>.im (.tup is)
 |none=>.o7 E
@[simp] def qj(E:List ai):ai:=match fV E with
 |some is=>.lst is
 |none=>.hl E
theorem xf{j:ax}:∀{E:List ai}{T:List ao}{R1:List ag}{is:List X},cN j E T R1->fV E=Z is->bx j is T/\R1=[]
 |[],_,_,_,d,c=>by cases c;exact d
 |.im x::E,_,_,_,d,c=>by
  let⟨s,u,f,@bB,rfl,@⟨t,rfl⟩,A,rfl⟩:=d;rw[fV]at c;let⟨@o,a,b⟩:=cB.mp c;cases b;let@⟨e,rfl⟩:=xf A a;exact⟨⟨s,u,rfl,t,e⟩,rfl⟩
 |.ed::_,_,_,_,_,c=>by rw[fV]at c;cases c;all_goals (intro W C;cases C)
 |.cv _::_,_,_,_,_,c=>by rw[fV]at c;cases c;all_goals (intro W C;cases C)
 |.lst _::_,_,_,_,_,c=>by rw[fV]at c;cases c;all_goals (intro W C;cases C)
 |.dN _::_,_,_,_,_,c=>by rw[fV]at c;cases c;all_goals (intro W C;cases C)
 |.aO _::_,_,_,_,_,c=>by rw[fV]at c;cases c;all_goals (intro W C;cases C)
 |.hl _::_,_,_,_,_,c=>by rw[fV]at c;cases c;all_goals (intro W C;cases C)
 |.o7 _::_,_,_,_,_,c=>by rw[fV]at c;cases c;all_goals (intro W C;cases C)
 |.eV _::_,_,_,_,_,c=>by rw[fV]at c;cases c;all_goals (intro W C;cases C)
 |.dL _::_,_,_,_,_,c=>by rw[fV]at c;cases c;all_goals (intro W C;cases C)
 |.uZ _ _::_,_,_,_,_,c=>by rw[fV]at c;cases c;all_goals (intro W C;cases C)
 |.aS _ _ _::_,_,_,_,_,c=>by rw[fV]at c;cases c;all_goals (intro W C;cases C)
@[simp] def dz(L:aA (List bz)):aA ai:=λk=>(L k).bind λo=>(d2 o.1 o.2).bind λq=>if q.1.length<=100000 then Z (qq q.1,q.2) else V
@[simp] def fO(L:aA (List bz)):aA ai:=λk=>(L k).bind λo=>(d2 o.1 o.2).bind λq=>if q.1.length<=100000 then Z (qj q.1,q.2) else V
def Nm{E:List ai}{o:ag}(h:cI j S)(d:cN j E T R1)(c:S o=Z (.tup T)):∃a,b4 S (qq E) (.ref o) a/\a=R1:=by
 unfold qq;split
 ·rename_i is RT;let@⟨b,rfl⟩:=xf d RT;exact⟨[],⟨⟨o,T,rfl,c,b.mono h.tupS.tup⟩,rfl⟩,rfl⟩
 ·exact⟨R1,⟨o,T,rfl,c,d.mono h.tupS λg W m q=>h g m q⟩,rfl⟩
def NO{E:List ai}{o:ag}(h:cI j S)(d:cN j E T R1)(c:S o=Z (.lst T)):b4 S (qj E) (.ref o) (o::R1):=by
 unfold qj;split
 ·rename_i is RT;let@⟨a,rfl⟩:=xf d RT;exact⟨o,T,rfl,c,a.mono h.tupS.tup,rfl⟩
 ·exact⟨o,T,R1,rfl,c,d.mono h.tupS λg W m q=>h g m q,rfl⟩
def m1(d:v<=100000):v<=sizeLine:=dx d ∅
def a4.add{j R5:ax}{N O:List ag}{o:ag}{m:eZ}(g:a4 j N R5 O)(a:R5 o=V)(p:∀f∈O,fp R5 f):a4 j N (upd R5 o m) (O++[o]):=by
 have h:cI R5 (upd R5 o m):=(cI.refl R5).upd a;have:=a4.new (R1:=[]) (d:=[o]) (by rw[bR];exact g) h (eY _ _) (λf b=>by rw[cm.mp b];exact a) p;exact this
def a4.same(g:a4 j N R5 O)(h:cI R5 Sf):a4 j N Sf O:=
 ⟨λf m c a=>h _ _<|g.keep f m c a,g.sub,g.aj,g.tup.trans h.tupS,λf m c=>let ⟨SG,b⟩:=g.grow f m c;⟨SG,h _ _ b⟩⟩
section
variable{b:aJ}
def oW{e}(d:fw b U L):cF b (.Tuple U e Sd) (dz L):=by
 refine eB (LI d) λw j B f=>?_;let⟨k,N,u,@Sl,Y,aj,i,q⟩:=f;let⟨@⟨M,R_⟩,t,A⟩:=bu.mp i;let⟨@⟨E,Sv⟩,l,a⟩:=bu.mp A;refine⟨k,N,M,R_,Y,aj,t,λT R5 Sg D n p r=>?_⟩;let⟨Sp,@bB,s,Su,Sr⟩:=l5 n p l;split at a
 ·rename_i v;cases a;have x:T.length<=100000:=by rw[<-Su.length];exact v
  refine⟨m1 x,λo y=>?_⟩;have h:cI R5 (upd R5 o<|.tup T):=(cI.refl R5).upd y;let⟨@z,C,rfl⟩:=Nm h Su dV;exact q _ _ Sp z (s.mono h.tupS λg W m c=>h g m c) C ((r.iZ Sr.symm).same h)
 ·cases a
def ko(d:fw b U L):cF b (.List U Sd) (fO L):=by
 refine eB (Rj d) λw j B n=>?_;let⟨k,N,u,@Sl,Y,aj,p,q⟩:=n;let⟨@⟨M,R_⟩,t,A⟩:=bu.mp p;let⟨@⟨E,Sv⟩,r,e⟩:=bu.mp A;refine⟨k,N,M,R_,Y,aj,t,λT R5 Sg D s v x=>?_⟩;let⟨Sp,@bB,i,Su,Sr⟩:=l5 s v r;split at e
 ·rename_i y;cases e;have z:T.length<=100000:=by rw[<-Su.length];exact y
  refine⟨m1 z,λo l=>?_⟩;have h:cI R5 (upd R5 o<|.lst T):=(cI.refl R5).upd l;have C:=NO h Su (o:=o) dV;refine q _ _ Sp (o::bB) (i.mono h.tupS λg W m c=>h g m c) C (((x.iZ Sr.symm).add l λf a=>?_).iZ ?_)
  ·rcases dJ.mp a with a|a
   ·exact i.chg f a
   ·exact Su.chg f a
  ·rw[bg];exact dp _ cW
 ·cases e
def hD(b:aJ)(F:ab)(SJ:List ai->Option ai):Prop:=(
 e7 b F λz j B=>∃E x,lI j E z/\SJ E=Z x/\∀s S R1,cI j S->b4 S x s R1->R1.Nodup->(∀g∈R1,j g=V)->B s S)
@[simp] def bX(SJ:List ai->Option ai)(L:aA (List bz)):aA ai:=λk=>(L k).bind λo=>(ht o.2 o.1).bind λE=>(SJ E).map λx=>(x,o.2)
def EA(d:lH (bX SJ L) w j B):
  g6 L w j λz R5=>∃E x,lI R5 E z/\SJ E=Z x/\∀s S R1,cI R5 S->b4 S x s R1->R1.Nodup->(∀g∈R1,R5 g=V)->B s S:=by
 let⟨k,N,u,@Sl,Y,aj,e,q⟩:=d;let⟨@⟨M,R_⟩,t,A⟩:=bu.mp e;let⟨@E,f,h⟩:=bu.mp A;let⟨@x,i,l⟩:=cB.mp h;cases l;refine⟨k,N,M,R_,Y,aj,t,λT R5 Sg v a n o=>⟨E,_,n.read a f,i,λs Sf R1 b Su p r=>?_⟩⟩;exact q s Sf Sg R1 (a.mono b.tupS λg W m c=>b g m c) Su (o.new b p r a.chg)
def Lp{id:String}(a:hD b (.builtin id) SJ)(e:ep b f)(g:b.aE f=V)(h:gm f=Z (.builtin id))(i:fw b (c::U) L)(j:f ≠ "__name__" := by decide)(k:(f==("__debug__" : au))=ay:=by decide)(l:bC (c::U) b.env=(ay,bK c b.env)::bC U b.env:=by rfl)(m:(ez Sd<|bC U b.env).any (·.1)=ay:=by rfl):
  cF b (.Call (.Name f o) (c::U) [] Sd) (bX SJ L):=eB (Ge a e g h i j k l m) λ_ W W d=>EA d
def i8{R8:String}(a:hD b (.type R8) SJ)(e:ep b f)(g:b.aE f=V)(h:gm f=Z (.type R8))(i:fw b (c::U) L)(j:f ≠ "__name__" := by decide)(k:(f==("__debug__" : au))=ay:=by decide)(l:bC (c::U) b.env=(ay,bK c b.env)::bC U b.env:=by rfl)(m:(ez Sd<|bC U b.env).any (·.1)=ay:=by rfl):
  cF b (.Call (.Name f o) (c::U) [] Sd) (bX SJ L):=eB (I6 a e g h i j k l m) λ_ W W d=>EA d
abbrev cX:=List ai->Option (ai×List ai)
def ib(v:Nat)(R2:cX):je:=(λT j B W=>T.length=v/\∃E N u cj,cN j E T N/\N.Nodup/\R2 E=Z (u,cj)/\∀s S R1 a,b4 S u s R1->cN S cj T a->a4 j N S (R1++a)->B s S)
@[simp] def bV(v:Nat)(R2:cX)(L:aA (List bz)):aA ai:=λk=>(L k).bind λo=>if o.1.length=v then (d2 o.1 o.2).bind λq=>(R2 q.1).map λu=>(u.1,g4 o.1 u.2 q.2) else V
theorem j5.length{j:ax}{w:aZ}:∀{M:List bz}{T:List ao}{R1:List ag},j5 j w M T R1->M.length=T.length
 |[],_,_,d=>by rw[d.1];rfl
 |m::M,_,_,d=>by
  let⟨s,u,a,@bB,rfl,t,A,rfl⟩:=d;rw[dA,dA,j5.length A]
def LM{R2:cX}{RW:fh}(d:lH (bV v R2 L) w j B):DC (ib v R2) [] RW (g6 L) w j B:=by
 let⟨k,N,u,@Sl,Y,aj,l,q⟩:=d;let⟨@⟨M,R_⟩,t,A⟩:=bu.mp l;split at A
 ·rename_i n;let⟨@⟨E,Sv⟩,o,p⟩:=bu.mp A;let⟨@⟨SW,cj⟩,r,x⟩:=cB.mp p;cases x;refine⟨k,N,M,R_,Y,aj,t,λT R5 Sg P y a z=>?_⟩;let⟨Sp,bB,h,Su,Sr⟩:=l5 y a o;have b:=z.iZ (Sr.symm.trans cW);rw[bR];refine⟨by rw[<-a.length];exact n,E,bB,_,cj,Su,(c1.mp b.aj).1,r,λs i R1 Q cw cp e=>?_⟩;have C:=b.trans e h.chg;have D:∀g∈Sp,g∉bB:=λg f F=>(c1.mp b.aj).2.2 g F g f rfl;have G:bc i Sv w Sp:=h.mono e.tup λg f m c=>e.keep g m c (D g f);let⟨H,@I,J,O⟩:=rk G a cp;refine q s i H R1 J cw (C.less (ae:=I) ?_);refine List.Perm.trans ?_ cW;rw[bg];refine (dp _ cW).trans ?_;rw[<-bg];refine (eo _ O).trans ?_;rw[bg];exact dp _ cW
 ·cases A
def Rh{R2:cX}{F:ag}(N:fM b.prog b.w b.K b.aE b.base gk n F fd RY (ib v R2))(a:dd n b.A)(e:ep b f)(g:b.aE f=Z (.ref F))(h:Δ b.K (.ref F)=aa)(i:fG b.K fd RY [])(j:fw b (c::U) L)(k:(f==("__debug__" : au))=ay:=by decide)(l:bC (c::U) b.env=(ay,bK c b.env)::bC U b.env:=by rfl)(m:(ez Sd<|bC U b.env).any (·.1)=ay:=by rfl):
  cF b (.Call (.Name f o) (c::U) [] Sd) (bV v R2 L):=eB (OC N a e g h i .nil tq j k l m) λ_ T T d=>LM d
inductive nQ where
 | aL|dP (x:ai)|fb|bQ
abbrev bF:=aW->Option (nQ×aW)
def cS(Sy:List Nat)(w b:aZ):Prop:=(b.length=w.length/\∀a∈Sy,b[a]?=w[a]?)
def cS.refl:cS Sy w w:=⟨rfl,λ_ W=>rfl⟩
def cS.trans{b:aZ}(g:cS Sy w Tq)(e:cS Sy Tq b):cS Sy w b:=⟨e.1.trans g.1,λa RT=>(e.2 a RT).trans<|g.2 a RT⟩
def cS.set{s:Option ao}(d:r∉Sy):cS Sy w (w.set r s):=⟨uK,λa RT=>nu λc=>d (by rw[c];exact RT)⟩
def rj(Sy:List Nat)(RW:nG)(w:aZ)(j:ax)(N:List ag)(Sl:aW):nQ->Prop
 |.aL=>∀a S SA,cS Sy w a->bc S Sl a SA->a4 j N S SA->RW.aL a S
 |.fb=>∀a S SA,cS Sy w a->bc S Sl a SA->a4 j N S SA->RW.fb a S
 |.bQ=>∀a S SA,cS Sy w a->bc S Sl a SA->a4 j N S SA->RW.bQ a S
 |.dP x=>∀s a S SA R1,cS Sy w a->bc S Sl a SA->b4 S x s R1->a4 j N S (SA++R1)->RW.dP s S
def oG(Sy:List Nat)(L:bF):eA:=(λRW w j=>∃k N aT Sl,bc j k w N/\N.Nodup/\L k=Z (aT,Sl)/\rj Sy RW w j N Sl aT)
def hZ(b:aJ)(Sy:List Nat)(Y:bI)(L:bF):Prop:=(∀ ⦃o⦄,B0 b Y (oG Sy L) o)
def hM(b:aJ)(Sy:List Nat)(d6:List bI)(L:bF):Prop:=(∀ ⦃o⦄,CO b d6 (oG Sy L) o)
variable{Sw:eA}
def jM{Y:bI}{y:eA}(d:hK b Y y)(a:∀RW w j,Sw RW w j->y RW w j):hK b Y Sw:=λG h w j k l c=>d G h w j k l (a k w j c)
def AW{Y:List bI}{y:eA}(d:hu b Y y)(a:∀RW w j,Sw RW w j->y RW w j):hu b Y Sw:=λG h w j k l c=>d G h w j k l (a k w j c)
def rj.on{aT:nQ}(d:rj Sy RW w j N Sl aT)(SO:cS Sy w Tq)(h:a4 j N R5 Sg):rj Sy RW Tq R5 Sg Sl aT:=by
 cases aT with
 |aL=>exact λa S SA F Y RV=>d a S SA (SO.trans F) Y (h.seq RV)
 |fb=>exact λa S SA F Y RV=>d a S SA (SO.trans F) Y (h.seq RV)
 |bQ=>exact λa S SA F Y RV=>d a S SA (SO.trans F) Y (h.seq RV)
 |dP x=>exact λs a S SA R1 F Y Su RV=>d s a S SA R1 (SO.trans F) Y Su (h.seq RV)
def hT:bF:=(λk=>Z (.aL,k))
@[simp] def b1(L d:bF):bF:=λk=>(L k).bind λo=>match o.1 with
 |.aL=>d o.2
 |aT=>Z (aT,o.2)
def jH:hM b Sy [] hT:=by
 refine AW N8 λRW w j a=>?_;let⟨k,N,aT,@Sl,Y,aj,c,q⟩:=a;cases c;exact q w j N cS.refl Y (a4.perm aj<|List.Perm.refl _)
variable{L:bF}
def c2{Y:bI}(d:hZ b Sy Y L):hM b Sy [Y] L:=GV d
def N9{d:bF}(H:oG Sy (b1 L d) RW w j):AL (oG Sy L) (oG Sy d) RW w j:=by
 let⟨k,N,aT,@Sl,Y,aj,a,q⟩:=H;let⟨@⟨b,R_⟩,t,A⟩:=bu.mp a;cases b with
 |aL=>exact⟨k,N,.aL,R_,Y,aj,t,λe S SA SO c h=>⟨R_,SA,aT,Sl,c,h.aj,A,q.on SO h⟩⟩
 |fb=>cases A;exact⟨k,N,.fb,R_,Y,aj,t,q⟩
 |bQ=>cases A;exact⟨k,N,.bQ,R_,Y,aj,t,q⟩
 |dP x=>cases A;exact⟨k,N,.dP x,R_,Y,aj,t,q⟩
def cu{Y:bI}{d6:List bI}{d:bF}(t:hZ b Sy Y L)(A:hM b Sy d6 d):hM b Sy (Y::d6) (b1 L d):=AW (M7 t A) λ_ W W H=>N9 H
@[simp] def iM(L:aA ai):bF:=λk=>(L k).map λo=>(.aL,o.2)
variable{L:aA ai}
def pK(d:cF b c L)(R6:nN c V Sd.line b.env=pure ay:=by rfl):hZ b Sy (.Expr c Sd) (iM L):=by
 refine jM (QB d R6) λRW w j a=>?_;let⟨k,N,aT,@Sl,Y,aj,e,q⟩:=a;let⟨@⟨u,R_⟩,t,A⟩:=cB.mp e;cases A;exact⟨k,N,u,_,Y,aj,t,λs S SA R1 f Su h=>q w S SA cS.refl f<|h.less<|List.Perm.refl _⟩
@[simp] def dk(L:aA ai):bF:=λk=>(L k).map λo=>(.dP o.1,o.2)
def d7(d:cF b c L):hZ b Sy (.Return (Z c) Sd) (dk L):=by
 refine jM (G0 d) λRW w j a=>?_;let⟨k,N,aT,@Sl,Y,aj,e,q⟩:=a;let⟨@⟨u,R_⟩,t,A⟩:=cB.mp e;cases A;exact⟨k,N,u,_,Y,aj,t,λs S SA R1 f Su h=>q s w S SA R1 cS.refl f Su h⟩
@[simp] def fN(p:aA Bool)(g e:bF):bF:=λk=>(p k).bind λo=>if o.1=aa then g o.2 else e o.2
variable{SV:bF}
def kq{g e:List bI}{S2:bF}(d:jb b p Tc)(f:hM b Sy g S2)(h:hM b Sy e SV):hZ b Sy (.If p g e Sd) (fN Tc S2 SV):=by
 refine jM (Jd d f h) λRW w j i=>?_;let⟨k,N,aT,@Sl,Y,aj,l,q⟩:=i;let⟨@⟨y,R_⟩,t,A⟩:=bu.mp l;refine⟨k,N,y,R_,Y,aj,t,λR5 Sg c a=>?_⟩;cases y with
 |true=>
  rw[aD rfl]at A ⊢;exact⟨R_,Sg,aT,Sl,c,a.aj,A,q.on cS.refl a⟩
 |false=>
  rw[aG c4]at A ⊢;exact⟨R_,Sg,aT,Sl,c,a.aj,A,q.on cS.refl a⟩
@[simp] def cy(a:Nat)(L:aA ai):bF:=λk=>(L k).bind λo=>if a<o.2.length then Z (.aL,o.2.set a<|Z o.1) else V
variable{a:Nat}
def yr{y:Pos}(d:b.N.Nodup)(RT:b.N[a]?=Z f)(e:kU b.env.scope f)(g:cF b c L)(h:a∉Sy)(R6:nN c (Z<|.Name f y) Sd.line b.env=pure ay:=by rfl)(i:b.fn f=aa\/b.env.scope.names.lookup f=Z .local:=by first|exact .inl rfl|exact .inr rfl|assumption):hZ b Sy (.Assign [.Name f y] c Sd) (cy a L):=by
 refine jM (JA d RT e g R6 i) λRW w j l=>?_;let⟨k,N,aT,@Sl,Y,aj,m,q⟩:=l;let⟨@⟨u,R_⟩,t,A⟩:=bu.mp m;split at A
 ·rename_i n;cases A;refine⟨k,N,u,_,Y,aj,t,λs R5 Sg R1 o Su p=>?_⟩;let⟨Sp,@bB,r,Sr⟩:=o.put (a:=a) Su n;exact q _ R5 Sp (cS.set h) r (p.less Sr)
 ·cases A
abbrev eF:=ai->aW->Option aW
def vR(Sy:List Nat)(L:eF):gu:=(λs w j B=>∃k N x R1 Sl,bc j k w N/\b4 j x s R1/\(N++R1).Nodup/\L x k=Z Sl/\∀a S SA,cS Sy w a->bc S Sl a SA->a4 j (N++R1) S SA->B a S)
def gM(b:aJ)(Sy:List Nat)(c:bj)(L:eF):Prop:=(∀ ⦃o⦄,DR b c (vR Sy L) o)
def rY{y Sw:gu}(d:jI b c y)(a:∀s w j B,Sw s w j B->y s w j B):jI b c Sw:=λG h w j f s B l u e=>d G h w j f s B l u (a f w j B e)
@[simp] def cz(a:Nat):eF:=λx k=>if a<k.length then Z (k.set a<|Z x) else V
def tL(d:b.N.Nodup)(RT:b.N[a]?=Z f)(e:kU b.env.scope f)(g:a∉Sy)(h:b.fn f=aa\/b.env.scope.names.lookup f=Z .local:=by first|exact .inl rfl|exact .inr rfl|assumption):gM b Sy (.Name f Sd) (cz a):=by
 refine rY (La d RT e h) λs w j B i=>?_;let⟨k,N,x,R1,@Sl,Y,Su,aj,c,q⟩:=i;unfold cz at c;split at c
 ·rename_i l;cases c;let⟨Sp,@bB,m,Sr⟩:=Y.put (a:=a) Su l;exact q _ j Sp (cS.set g) m ((a4.perm aj<|List.Perm.refl _).less Sr)
 ·cases c
def PZ(Sy:List Nat)(L:List ai->aW->Option aW):kr:=(λT w j B=>∃k N E R1 Sl,bc j k w N/\cN j E T R1/\(N++R1).Nodup/\L E k=Z Sl/\∀a S SA,cS Sy w a->bc S Sl a SA->a4 j (N++R1) S SA->B a S)
def r_(b:aJ)(Sy:List Nat)(U:List bj)(L:List ai->aW->Option aW):Prop:=(∀ ⦃o⦄,zN b U (PZ Sy L) o)
@[simp] def nL:List ai->aW->Option aW
 |[],k=>Z k
 |_,_=>V
@[simp] def h9(L:eF)(d:List ai->aW->Option aW):List ai->aW->Option aW
 |x::E,k=>(L x k).bind (d E)
 |_,_=>V
def Ad{y Sw:kr}(d:n1 b U y)(a:∀s w j B,Sw s w j B->y s w j B):n1 b U Sw:=λG h w j z T B l u c=>d G h w j z T B l u (a z w j B c)
def PM:r_ b Sy [] nL:=by
 refine Ad Js λT w j B c=>?_;let⟨k,N,E,R1,@Sl,Y,Su,aj,a,q⟩:=c;cases E with
 |cons x E=>cases a
 |nil=>
  cases a;exact⟨Su.1,q w j N cS.refl Y<|(a4.perm aj<|List.Perm.refl _).less<|List.Perm.refl _⟩
def Fp{L:eF}(t:gM b Sy c L)(A:r_ b Sy U d)(R6:(gB (c::U) b.env).map (·.2)=jC c b.env::(gB U b.env).map (·.2):=by rfl):r_ b Sy (c::U) (h9 L d):=by
 refine Ad (Qw t A R6) λT w j B r=>?_;let⟨k,N,E,R1,@Sl,Y,Su,aj,n,q⟩:=r;cases E with
 |nil=>cases n
 |cons x E=>
  let⟨s,u,h,@bB,rfl,cw,cp,rfl⟩:=Su;let⟨@R_,v,y⟩:=bu.mp (show (L x k).bind (d E)=Z Sl from n);have l:((N++h)++bB).Nodup:=by rw[bg];exact aj
  refine⟨s,u,rfl,k,N,x,h,R_,Y,cw,(c1.mp l).1,v,λTq R5 Sg SO z f=>?_⟩;have o:∀g∈bB,g∉N++h:=λg a i=>(c1.mp l).2.2 g i g a rfl;have C:cN R5 E u bB:=cp.mono f.tup λg a m c=>f.keep g m c (o g a);have p:a4 j (N++(h++bB)) R5 (Sg++bB):=by
   refine⟨λg m c a=>f.keep g m c λd=>a ?_,λg a=>?_,c1.mpr ⟨f.aj,(c1.mp l).2.1,λg a e i c=>?_⟩,f.tup,f.grow⟩
   ·rw[<-bg];exact ea _ d
   ·rcases dJ.mp a with a|a
    ·rcases f.sub g a with d|d
     ·left;rw[<-bg];exact ea _ d
     ·exact .inr d
    ·left;rw[<-bg];exact di _ a
   ·subst c;rcases f.sub g a with d|d
    ·exact o g i d
    ·let⟨@m,c,W⟩:=cp.chg g i;rw[c]at d;cases d
  exact⟨R_,Sg,E,bB,Sl,z,C,p.aj,y,λD Sf Sp F G H=>q D Sf Sp (SO.trans F) G<|p.seq H⟩
@[simp] def lX(v:Nat)(d:List ai->aW->Option aW):eF:=λx k=>match x with
 |.im (.tup is)=>if is.length=v then d (is.map .im) k else V
 |.o7 E=>if E.length=v then d E k else V
 |_=>V
theorem GF{j:ax}:∀{is:List X}{T:List ao},bx j is T->cN j (is.map .im) T []
 |[],T,d=>⟨d,rfl⟩
 |x::is,T,d=>by
  let⟨s,@u,rfl,t,A⟩:=d;exact⟨s,u,[],[],rfl,⟨t,rfl⟩,GF A,rfl⟩
def Pg(e:b.calm=aa)(R6:r_ b Sy U d)(f:(gB U b.env).length=v:=by rfl)(h:(gB U b.env).findIdx? (·.1)=V:=by rfl):gM b Sy (.Tuple U n Sd) (lX v d):=by
 refine rY (MK e R6 f h) λs w j B i=>?_;let⟨k,N,x,R1,@Sl,Y,Su,aj,a,q⟩:=i;unfold lX at a;split at a
 ·rename_i is;split at a
  ·rename_i c;let@⟨⟨g,@z,rfl,t,A⟩,rfl⟩:=Su;exact⟨g,z,rfl,c7.of t,by rw[<-A.length];exact c,k,N,_,[],Sl,Y,GF A,aj,a,q⟩
  ·cases a
 ·rename_i E;split at a
  ·rename_i c;let⟨g,@z,rfl,t,A⟩:=Su;exact⟨g,z,rfl,c7.of t,by rw[<-A.length];exact c,k,N,_,R1,Sl,Y,A,aj,a,q⟩
  ·cases a
 ·cases a
@[simp] def iS(L:aA ai)(d:eF):bF:=λk=>(L k).bind λo=>(d o.1 o.2).map λSl=>(.aL,Sl)
def mM{d:eF}(e:cF b c L)(f:gM b Sy Sz d)(R6:r4 [Sz] c Sd.line b.env=pure ay:=by rfl)(g:tg [Sz] c b.env=pure V:=by rfl)(t:(gB [Sz] b.env).map (·.2)=[jC Sz b.env]:=by rfl):hZ b Sy (.Assign [Sz] c Sd) (iS L d):=by
 refine jM (P8 e f R6 g t) λRW w j h=>?_;let⟨k,N,aT,@Sl,Y,aj,i,q⟩:=h;let⟨@⟨u,R_⟩,g1,g2⟩:=bu.mp i;let⟨@Sv,l,m⟩:=cB.mp g2;cases m;exact⟨k,N,u,R_,Y,aj,g1,λs R5 Sg R1 n Su a=>⟨R_,Sg,u,R1,_,n,Su,a.aj,l,λo S SA SO p r=>q o S SA SO p<|a.seq r⟩⟩
@[simp] def nf(a r:Nat)(L:aA (List bz)):bF:=λk=>(L k).bind λo=>(d2 o.1 o.2).bind λq=>match q.1 with
 |[Sx,SK]=>if a<q.2.length/\r<q.2.length then Z (.aL,(q.2.set a<|Z Sx).set r<|Z SK) else V
 |_=>V
def Am{D:au}{L:aA (List bz)}{i4 h pt Sd:Pos}{SN i l}(o:b.calm=aa)(p:b.N.Nodup)(RT:b.N[a]?=Z f)(v:b.N[r]?=Z D)(x:a≠r)(y:b.env.scope.names.lookup f=Z .local)(z:b.env.scope.names.lookup D=Z .local)(B:fw b [g,e] L)(C:a∉Sy)(F:r∉Sy)(G:tg [.Tuple [.Name f i4,.Name D h] SN pt] (.Tuple [g,e] i l) b.env=pure (Z [f,D]))(R6:r4 [.Tuple [.Name f i4,.Name D h] SN pt] (.Tuple [g,e] i l) Sd.line b.env=pure ay:=by rfl):
  hZ b Sy (.Assign [.Tuple [.Name f i4,.Name D h] SN pt] (.Tuple [g,e] i l) Sd) (nf a r L):=by
 refine jM (Ib o p RT v x y z B G R6) λRW w j H=>?_;let⟨k,N,aT,@Sl,Y,aj,P,q⟩:=H;let⟨@⟨M,R_⟩,t,A⟩:=bu.mp P;let⟨@⟨E,Sv⟩,Q,d⟩:=bu.mp A;refine⟨k,N,M,R_,Y,aj,t,λT R5 Sg be R S U=>?_⟩;let⟨Sp,@bB,al,Su,Sr⟩:=l5 R S Q;dsimp only at d;split at d
 ·rename_i Sx SK c;split at d
  ·rename_i m;cases d;let⟨s,u,O,@SM,rfl,cw,cp,rfl⟩:=Su;let⟨I,SW,bi,@bm,rfl,c_,@⟨rfl,rfl⟩,rfl⟩:=cp;let⟨am,@n,an,ap⟩:=al.put (a:=a) cw m.1;let⟨as,@a1,a2,bd⟩:=an.put (a:=r) c_ (by rw[uK];exact m.2);refine⟨s,I,rfl,q _ R5 as ((cS.set C).trans<|cS.set F) a2<|(U.iZ Sr.symm).less (ae:=a1++n) ?_⟩;rw[<-bg,bR,<-bg];refine (eo n bd).trans ?_;rw[bg];refine (dp am cW).trans ?_;rw[<-bg];exact eo _ ap
  ·cases d
 ·cases d
def kM(p:aA Bool)(e:bF):Nat->bF
 |0=>λ_=>V
 |v+1=>λk=>(p k).bind λo=>if o.1=aa then (e o.2).bind λq=>match q.1 with
  |.aL=>kM p e v q.2
  |.bQ=>kM p e v q.2
  |.fb=>Z (.aL,q.2)
  |.dP x=>Z (.dP x,q.2) else Z (.aL,o.2)
def H9(v:Nat)(o:n2 (aM b.prog b.w) b.A b.env b.cH)(r:jb b p Tc)(t:hM b Sy Th SV):hZ b Sy (.While p Th [] Sd) (kM Tc SV v):=by
 refine jM (OB o r t) λRW w j u=>?_;let⟨k,N,aT,@Sl,Y,aj,z,q⟩:=u;refine⟨λi a S=>∃g SA,bc S g a SA/\cS Sy w a/\a4 j N S SA/\kM Tc SV i g=Z (aT,Sl),⟨v,k,N,Y,cS.refl,a4.perm aj<|List.Perm.refl _,z⟩,?_⟩;rintro i Tq R5 ⟨R_,Sg,B,h,e,H⟩;cases i with
 |zero=>cases H
 |succ i=>
  rw[kM]at H;let⟨@⟨y,Sv⟩,cw,cp⟩:=bu.mp H;refine⟨R_,Sg,y,Sv,B,e.aj,cw,λSf Sp n f=>?_⟩;cases y with
  |false=>
   rw[aG c4]at cp ⊢;cases cp;exact q Tq Sf Sp h n (e.seq f)
  |true=>
   rw[aD rfl]at cp ⊢;let⟨@⟨F,l⟩,c_,m⟩:=bu.mp cp;refine⟨λa S=>∃g SA,bc S g a SA/\cS Sy w a/\a4 j N S SA/\kM Tc SV i g=Z (aT,Sl),λa S d=>⟨i,k6 i,d⟩,Sv,Sp,F,l,n,f.aj,c_,?_⟩;cases F with
   |aL=>exact λa S SA SO c RV=>⟨l,SA,c,h.trans SO,(e.seq f).seq RV,m⟩
   |bQ=>exact λa S SA SO c RV=>⟨l,SA,c,h.trans SO,(e.seq f).seq RV,m⟩
   |fb=>
    cases m;exact λa S SA SO c RV=>q a S SA (h.trans SO) c ((e.seq f).seq RV)
   |dP x=>
    cases m;exact λs a S SA R1 SO c Su RV=>q s a S SA R1 (h.trans SO) c Su ((e.seq f).seq RV)
structure lQ(SY:eR)(j:ax)(R1:List ag)(E:List X):Prop where
 go:∀S,d8 j S->(∀g∈R1,∀m,j g=Z m->S g=Z m)->∀(a:Nat) (x:X),E[a]?=Z x->SY.go a S/\∀f vs,SY.rP a S f vs->cI S vs/\cq vs x f
 stop:∀S,d8 j S->(∀g∈R1,∀m,j g=Z m->S g=Z m)->SY.stop E.length S
def qa(j:ax)(w:aZ)(R1:List ag):Option (Nat×ai)->Prop
 |none=>True
 |some (a,x)=>∃s,w[a]?=Z (Z s)/\b4 j x s R1
def xe(L:aA (List X×Option (Nat×ai))):jh:=(λw j a=>∃k N u Sl,bc j k w N/\N.Nodup/\L k=Z (u,Sl)/\∀SY S SA R1,bc S Sl w SA->lQ SY S R1 u.1->qa S w R1 u.2->(∀g∈R1,fp S g)->a4 j N S (SA++R1)->a SY S)
def jP(b:aJ)(Sz S4:bj)(L:aA (List X×Option (Nat×ai))):Prop:=(∀ ⦃o⦄,Bx b Sz S4 (xe L) o)
def yu{y Sw:jh}(d:lj b Sz S4 y)(a:∀w j R1,Sw w j R1->y w j R1):lj b Sz S4 Sw:=λG h w j R1 l c=>d G h w j R1 l (a w j R1 c)
def eQ(Sz:eF)(e:bF):List X->bF
 |[]=>λk=>Z (.aL,k)
 |f::u=>λk=>(Sz (.im f) k).bind λR_=>(e R_).bind λq=>match q.1 with
  |.aL=>eQ Sz e u q.2
  |.bQ=>eQ Sz e u q.2
  |.fb=>Z (.aL,q.2)
  |.dP x=>Z (.dP x,q.2)
@[simp] def kE:Option (Nat×ai)->aW->aW
 |none,k=>k
 |some (a,x),k=>match k[a]? with
  |some (Z .ed)=>k.set a (Z x)
  |_=>k
@[simp] def gz(L:aA (List X×Option (Nat×ai)))(Sz:eF)(e:bF):bF:=λk=>(L k).bind λo=>(eQ Sz e o.1.1 o.2).map λq=>(q.1,kE o.1.2 q.2)
def wK{m:Option (Nat×ai)}(Y:bc j k w N)(d:qa j w R1 m):∃Sg R2,bc j (kE m k) w Sg/\(Sg++R2).Perm (N++R1):=by
 cases m with
 |none=>exact⟨N,R1,Y,List.Perm.refl _⟩
 |some o=>
  let⟨a,x⟩:=o;let⟨@s,t,A⟩:=d;unfold kE;dsimp only;split
  ·exact Y.back A t
  ·exact⟨N,R1,Y,List.Perm.refl _⟩
def jk(SO:List Nat):Option (Nat×ai)->Prop
 |none=>True
 |some (a,_)=>a∈SO
def JS{L:aA (List X×Option (Nat×ai))}{Tf:eF}(ge:n2 (aM b.prog b.w) b.A b.env b.cH)(gl:b.calm=aa)(RT:jP b Sz S4 L)(gt:gM b SO Sz Tf)(g1:hM b SO Th SV)(ch:∀a∈Sy,a∈SO)(R6:∀k u Sl,L k=Z (u,Sl)->jk SO u.2)(ci:hK b (.For Sz S4 Th [] Sd) (BH (xe L) (vR SO Tf)<|oG SO SV)):hZ b Sy (.For Sz S4 Th [] Sd) (gz L Tf SV):=by
 refine jM ci λRW w j cl=>?_;let⟨k,N,aT,@Sl,Y,aj,co,q⟩:=cl;let⟨@⟨⟨E,m⟩,R_⟩,t,A⟩:=bu.mp co;let⟨@⟨F,Sv⟩,cr,cs⟩:=cB.mp A;cases cs;refine⟨k,N,(E,m),R_,Y,aj,t,λSY R5 Sg R1 db R0 ds as R=>?_⟩;have dL:jk SO m:=R6 k _ _ t;have a1:=c1.mp R.aj;have T:∀{Sf:ax}{Sp:List ag},a4 R5 Sg Sf Sp->∀g∈R1,∀I,R5 g=Z I->Sf g=Z I:=λh g eq I c=>h.keep g I c λd=>a1.2.2 g d g eq rfl;have a2:∀{Sf:ax}{Sp:List ag}{e:aZ},a4 R5 Sg Sf Sp->cS SO w e->qa Sf e R1 m:=λ{Sf Sp e} h F=>by
  cases m with
  |none=>trivial
  |some o=>
   let⟨a,x⟩:=o;let⟨@s,ev,ex⟩:=ds;exact⟨s,(F.2 a dL).trans ev,ex.mono h.tup<|T h⟩
 have bd:∀{e:aZ},cS SO w e->cS Sy w e:=λF=>⟨F.1,λa RT=>F.2 a<|ch a RT⟩;have be:∀{e:aZ}{Sf:ax}{Sp:List ag}{Sv:aW},rj Sy RW w j N (kE m Sv) .aL->cS SO w e->bc Sf Sv e Sp->a4 R5 Sg Sf Sp->RW.aL e Sf:=λ{e Sf Sp Sv} q F U y=>by
  let⟨D,@R2,al,Sr⟩:=wK U (a2 y F);exact q e Sf D (bd F) al ((R.trans y as).less Sr)
 refine⟨λa i am S=>i+a=E.length/\∃n SA,cS SO w am/\bc S n am SA/\a4 R5 Sg S SA/\eQ Tf SV (E.drop a) n=Z (F,Sv),⟨E.length,rfl,R_,Sg,cS.refl,db,a4.perm a1.1<|List.Perm.refl _,cr⟩,?_⟩;rintro a i am S ⟨g2,n,SA,z,bi,RV,G⟩;by_cases bm:a<E.length
 ·let@⟨fd,fn⟩:=R0.go S RV.tup (T RV) a E[a] (by simp[bm]);rw[iK bm,eQ]at G;let⟨@l,cw,cp⟩:=bu.mp G;let⟨@⟨bn,an⟩,c_,J⟩:=bu.mp cp;refine .inr ⟨fd,λe Sf=>(i-1)+(a+1)=E.length/\∃n SA,cS SO w e/\bc Sf n e SA/\a4 R5 Sg Sf SA/\eQ Tf SV (E.drop<|a+1) n=Z (F,Sv),λe Sf d=>⟨i-1,⋯,d⟩,λf Sf fr=>?_⟩;let@⟨ap,f0⟩:=fn f Sf fr;have U:=bi.mono ap.tupS λg W m c=>ap g m c;have y:=RV.same ap;refine⟨n,SA,.im E[a],[],l,U,⟨f0,rfl⟩,by rw[bR];exact y.aj,cw,λg3 f1 D M al bs=>?_⟩;have B:a4 R5 Sg f1 D:=y.seq (by rw[bR]at bs;exact bs);refine⟨l,D,bn,an,al,B.aj,c_,?_⟩;cases bn with
  |aL=>exact λP Q C p r v=>⟨⋯,an,C,(z.trans M).trans p,r,B.seq v,J⟩
  |bQ=>exact λP Q C p r v=>⟨⋯,an,C,(z.trans M).trans p,r,B.seq v,J⟩
  |fb=>
   cases J;exact λP Q C p r v=>be q ((z.trans M).trans p) r (B.seq v)
  |dP x=>
   cases J;intro s P Q C bv p r f2 v;have ca:=B.seq v;have cd:=(z.trans M).trans p;let⟨ce,@f4,f8,ga⟩:=wK (R1:=R1) r (a2 ca cd);refine q s P Q ce bv (bd cd) f8 f2 ((R.trans ca as).less (ae:=f4) ?_);rw[bg];refine (dp ce cW).trans ?_;rw[<-bg];refine (eo bv ga).trans ?_;rw[bg,bg];exact dp _ cW
 ·have RT:a=E.length:=⋯
  subst RT;refine .inl ⟨R0.stop S RV.tup<|T RV,?_⟩;rw[nq (bl _)]at G;cases G;exact be q z bi RV
end
section
variable{b:aJ}
variable{Tf:eF}
def ll{L:aA (List X×Option (Nat×ai))}{SV:bF}(c:n2 (aM b.prog b.w) b.A b.env b.cH)(d:b.calm=aa)(RT:jP b Sz S4 L)(e:gM b SO Sz Tf)(g:hM b SO Th SV)(h:∀a∈Sy,a∈SO)(R6:∀k u Sl,L k=Z (u,Sl)->jk SO u.2)(i:∀f,nd S4 b.env f=pure f:=by intro W;rfl):hZ b Sy (.For Sz S4 Th [] Sd) (gz L Tf SV):=
 JS c d RT e g h R6 (A0 c d RT e g i)
def Pk(Q:Φ)(Tv:bZ):jh:=(λw j R1=>Tv w j λf R5=>∃g,f=.ref g/\(((∃z,dE Q R5 g z)/\R1 (qJ Q g) R5)\/((∃z,c7 Q R5 g z)/\R1 (sQ Q g) R5)))
variable{J:bj}
def FP{Tv:bZ}(p:bH b J Tv):lj b Sz J (Pk b.K Tv):=by
 intro G h w j R1 l d;refine bO (p G h w j _ l d) λs a r=>?_;let⟨f,@R5,i,t,u⟩:=r;let⟨@g,c,q⟩:=u;subst c;cases t;rcases q with ⟨⟨z,k⟩,q⟩|⟨⟨z,k⟩,q⟩
 ·let⟨@Sa,v,o,x⟩:=i.list k;refine yB o.isList ?_;refine⟨a.heap.objs.size,[a.heap.objs.size],_,_,R5,rfl,i.kept (Sw:=a.toks) λe m c=>cg _ c,LW g _,⟨_,dh _ rfl,rfl,rfl⟩,λe n=>?_,q⟩;have c:e=a.heap.objs.size:=by simpa using n
  subst c;exact i.tO (bl _) (i.a0.fresh<|bl _)
 ·let⟨@Sa,v,o,x⟩:=i.tuple k;refine Gi (show a.heap.IsTuple g Sa.toArray from o) ?_;refine⟨a.heap.objs.size,[a.heap.objs.size],_,_,R5,rfl,i.kept (Sw:=a.toks) λe m c=>cg _ c,Nc g _,⟨_,dh _ rfl,rfl,rfl⟩,λe n=>?_,q⟩;have c:e=a.heap.objs.size:=by simpa using n
  subst c;exact i.tO (bl _) (i.a0.fresh<|bl _)
theorem bx.get{j:ax}:∀{E:List X}{T:List ao}{a:Nat}{x:X},bx j E T->E[a]?=Z x->∃s,T[a]?=Z s/\cq j x s
 |[],_,_,_,_,c=>by simp at c
 |x::E,_,0,_,d,c=>by
  let⟨s,@u,rfl,t,A⟩:=d;simp at c;subst c;exact⟨s,rfl,t⟩
 |x::E,_,a+1,_,d,c=>by
  let⟨s,@u,rfl,t,A⟩:=d;let⟨@I,b,e⟩:=bx.get (a:=a) A ⇑c;exact⟨I,by simpa using b,e⟩
variable{g:ag}
theorem x6(d:j g=Z (.lst z))(e:bx j E z):lQ (qJ Q g) j [g] E where
 go:=λS y n a x c=>by
  let⟨@s,b,h⟩:=e.get c;have RU:=dE.of (Q:=Q) (n g (.head _) _ d);refine⟨⟨z,s,RU,b⟩,λf l ⟨i,k⟩=>?_⟩;subst i;rw[k z RU]at b;cases b;exact⟨cI.refl _,h.mono y.tup⟩
 stop:=λS y n=>⟨z,dE.of<|n g (.head _) _ d,by rw[<-e.length];exact bl _⟩
theorem Ji{m:a3}(d:j g=Z (.cM m<|.lst z))(e:bx j E z):lQ (qJ Q g) j [] E where
 go:=λS y n a x c=>by
  let⟨@s,b,h⟩:=e.get c;have RU:dE Q S g z:=.inl (.inr ⟨m,y.cM _ _ _ d⟩);refine⟨⟨z,s,RU,b⟩,λf l ⟨i,k⟩=>?_⟩;subst i;rw[k z RU]at b;cases b;exact⟨cI.refl _,h.mono y.tup⟩
 stop:=λS y n=>⟨z,.inl<|.inr ⟨m,y.cM _ _ _ d⟩,by rw[<-e.length];exact bl _⟩
theorem KY(d:j g=Z (.tup z))(e:bx j E z):lQ (sQ Q g) j [] E where
 go:=λS y n a x c=>by
  let⟨@s,b,h⟩:=e.get c;have RU:=c7.of (Q:=Q) (y.tup g _ d);refine⟨⟨z,s,RU,b⟩,λf l ⟨i,k⟩=>?_⟩;subst i;rw[k z RU]at b;cases b;exact⟨cI.refl _,h.mono y.tup⟩
 stop:=λS y n=>⟨z,c7.of<|y.tup g _ d,by rw[<-e.length];exact bl _⟩
abbrev hq:=aA (List X×Option (Nat×ai))
@[simp] def m7(x:ai):Option (List X):=match x with
 |.im (.tup E)=>Z E
 |.lst E=>Z E
 |.cv E=>Z E
 |_=>V
@[simp] def eP(L:aA bz):hq:=λk=>(L k).bind λo=>match o.1 with
 |.cU x=>(m7 x).map λE=>((E,V),o.2)
 |.bJ a=>(fF a o.2).bind λq=>(m7 q.1).map λE=>((E,if q.1.eJ=aa then V else Z (a,q.1)),q.2)
def Ey(H:b4 j x s R1)(c:m7 x=Z E):
  ∃g,s=.ref g/\(((∃z,dE Q j g z)/\lQ (qJ Q g) j R1 E)\/((∃z,c7 Q j g z)/\lQ (sQ Q g) j R1 E)):=by
 unfold m7 at c;split at c
 ·cases c;let@⟨⟨g,@z,rfl,t,A⟩,rfl⟩:=H;exact⟨g,rfl,.inr ⟨⟨z,c7.of t⟩,KY t A⟩⟩
 ·cases c;let⟨g,@z,rfl,t,A,rfl⟩:=H;exact⟨g,rfl,.inl ⟨⟨z,dE.of t⟩,x6 t A⟩⟩
 ·cases c;let⟨g,z,@m,rfl,t,A,rfl⟩:=H;exact⟨g,rfl,.inl ⟨⟨z,.inl<|.inr ⟨m,t⟩⟩,Ji t A⟩⟩
 ·cases c
def mi{L:aA bz}(d:dm b J L):jP b Sz J (eP L):=by
 refine yu (FP d) λw j G z=>?_;let⟨k,N,u,@Sl,Y,aj,B,q⟩:=z;let⟨@⟨f,R_⟩,t,A⟩:=bu.mp B;refine⟨k,N,f,R_,Y,aj,t,λs R5 Sg R1 l c h=>?_⟩;cases f with
 |cU x=>
  let⟨@E,m,n⟩:=cB.mp A;cases n;let⟨@g,rfl,o⟩:=Ey (Q:=b.K) c m;refine⟨g,rfl,?_⟩;rcases o with ⟨e,R0⟩|⟨e,R0⟩
  ·exact .inl ⟨e,q _ R5 Sg R1 l R0 trivial (b4.chg c) h⟩
  ·exact .inr ⟨e,q _ R5 Sg R1 l R0 trivial (b4.chg c) h⟩
 |bJ a=>
  let⟨@⟨x,Sv⟩,m,n⟩:=bu.mp A;let⟨@E,C,D⟩:=cB.mp n;cases D;let⟨H,Sp,@bB,p,i,r,F⟩:=GH l m;let@⟨c,rfl⟩:=c;rw[c]at p;cases p;rw[bR]at h;have v:=h.iZ F.symm;let⟨@g,rfl,o⟩:=Ey (Q:=b.K) i C;have y:qa R5 w bB (if x.eJ=aa then V else Z (a,x)):=by
   split
   ·trivial
   ·exact⟨_,c,i⟩
  refine⟨g,rfl,?_⟩;rcases o with ⟨e,R0⟩|⟨e,R0⟩
  ·exact .inl ⟨e,q _ R5 Sp bB r R0 y i.chg v⟩
  ·exact .inr ⟨e,q _ R5 Sp bB r R0 y i.chg v⟩
def LB{L:aA ai}:∀k u Sl,eP (af L) k=Z (u,Sl)->jk SO u.2:=by
 intro k u Sl d;let⟨@⟨f,R_⟩,t,A⟩:=bu.mp d;unfold af at t;let⟨@o,c,a⟩:=cB.mp t;cases a;let⟨@E,e,b⟩:=cB.mp A;cases b
 trivial
variable{a:Nat}
def yP(RT:a∈SO):∀k u Sl,eP (aq a) k=Z (u,Sl)->jk SO u.2:=by
 intro k u Sl d;let⟨@⟨f,R_⟩,t,A⟩:=bu.mp d;unfold aq at t;split at t
 ·cases t;let⟨@⟨x,Sv⟩,e,b⟩:=bu.mp A;let⟨@E,g,c⟩:=cB.mp b;cases c;show jk SO (if x.eJ=aa then V else Z (a,x));split
  ·trivial
  ·exact RT
 ·cases t
def f3(P:Int)(v:Nat):List X:=((range v).map λ(n:Nat)=>X.int (P+(n:Int)))
theorem H6{P:Int}:lQ (ub P v) j [] (f3 P v) where
 go:=λS y n a x c=>by
  have RT:a<v:=by
   have:=(e4.mp c).1
   rwa [f3,bt,fQ]at this
  refine⟨RT,λf e ⟨b,d⟩=>?_⟩;subst b;rw[f3,dT,wz RT]at c;cases c;exact⟨cI.refl _,d⟩
 stop:=λS y n=>by
  show v<=_;rw[f3,bt,fQ];exact bl _
def nx(a:Int):Prop :=( -1000000<=a/\a<=1000000)
noncomputable instance (a:Int):Decidable (nx a):=inferInstanceAs (Decidable<|_/\_)
@[simp] def jr(L:aA (List bz)):hq:=λk=>(L k).bind λo=>(ht o.2 o.1).bind λE=>match E with
 |[.im (.int r)]=>if nx r then Z ((f3 0 r.toNat,V),o.2) else V
 |_=>V
def Ac{x:X}(d:lI j [.im x] T):∃s,T=[s]/\cq j x s:=by
 let⟨s,@u,rfl,⟨@R1,t,W⟩,A⟩:=d;cases (show u=[] from A);exact⟨s,rfl,t⟩
def BA{x c:X}(d:lI j [.im x,.im c] T):∃s I,T=[s,I]/\cq j x s/\cq j c I:=by
 let⟨s,@u,rfl,⟨@R1,t,W⟩,A⟩:=d;let⟨@I,rfl,a⟩:=Ac A;exact⟨s,I,rfl,t,a⟩
def sl{g:bj}(h:ep b "range")(i:b.aE "range" = V)(d:fw b [g] L)(R6:bC [g] b.env=[(ay,bK g b.env)]:=by rfl):jP b Sz (.Call (.Name "range" o) [g] [] Sd) (jr L):=by
 refine yu (Hp h i d R6) λw j y l=>?_;let⟨k,N,u,@Sl,Y,aj,m,q⟩:=l;let⟨@⟨M,R_⟩,t,A⟩:=bu.mp m;let⟨@E,n,a⟩:=bu.mp A;refine⟨k,N,M,R_,Y,aj,t,λT R5 Sg z e p v=>?_⟩;have x:=p.read e n;split at a
 ·rename_i r;split at a
  ·rename_i f;cases a;let⟨@s,rfl,c⟩:=Ac x;cases (show s=.int r from c);exact⟨r,rfl,by have:=f.1;lia,by have:=f.2;lia,q _ R5 Sg [] e H6 trivial (λg d=>nomatch d) (by rw[bR];exact v.less (List.Perm.refl _))⟩
  ·cases a
 ·cases a
def uQ:∀k u Sl,jr L k=Z (u,Sl)->jk SO u.2:=by
 intro k u Sl d;let⟨@⟨M,R_⟩,t,A⟩:=bu.mp d;let⟨@E,b,a⟩:=bu.mp A;split at a
 ·split at a
  ·cases a;trivial
  ·cases a
 ·cases a
def yL(b:aJ)(To:List bj)(L:aA Bool):Prop:=(∀ ⦃o⦄,F8 b To (jT L) o)
def ot:aA Bool:=(λk=>Z (aa,k))
def HP:yL b [] ot:=by
 intro G h w j B l a;let⟨k,N,e,@Sl,Y,aj,c,q⟩:=a;cases c;exact K8 G h w j B l (q j N Y<|a4.perm aj<|List.Perm.refl _)
def yy{L:aA Bool}(d:jb b p L):yL b [p] L:=Nx d
@[simp] def jf(SF:List Nat)(k:aW):aW:=SF.map λa=>k.getD a V
def jO:List Nat->aW->aW
 |[],k=>k
 |a::u,k=>jO u (match k[a]? with|some (Z _)=>k.set a (Z .ed)|_=>k)
@[simp] def ha:List Nat->aW->aW->aW
 |a::u,m::ae,k=>ha u ae (k.set a m)
 |_,_,k=>k
def g0(own:Nat)(Sz:eF)(p:aA Bool)(c:aA ai): List X -> List X -> aW -> Option (List X × aW)
  |[],a,ae => Z (a,ae)
  |f :: u,a,ae => (Sz (.im f)<|List.replicate own V ++ ae).bind λR_ => (p R_).bind λo => if o.1=aa then (c o.2).bind λq => match q.1 with
      |.im x => if a.length<100000 then g0 own Sz p c u (a ++ [x]) (q.2.drop own) else V
      |_ => V
    else g0 own Sz p c u a (o.2.drop own)
@[simp] def gK(own:Nat)(SF:List Nat)(G:hq)(Sz:eF)(p:aA Bool)(c:aA ai):aA ai:=λk=>(G k).bind λo=>(g0 own Sz p c o.1.1 []<|jf SF o.2).map λq=>(.lst q.1,kE o.1.2<|ha SF q.2 o.2)
def qb(own v:Nat):List Nat:=((range v).map (·+own))
def IT(d:k[a]?=Z m):k.getD a V=m:=by rw[ct,d];rfl
def bc.void(Y:bc j k w N)(a:Nat):∃Sg Sp,bc j (match k[a]? with|some (Z _)=>k.set a (Z .ed)|_=>k) w Sg/\lJ j (k.getD a V) (w.getD a V) Sp/\(Sg++Sp).Perm N:=by
 split
 ·rename_i x b;let⟨s,Sg,@Sp,t,A,d,e⟩:=Y.out b;refine⟨Sp,Sg,d,?_,e⟩;rw[IT b,ct,t];exact⟨s,rfl,A⟩
 ·rename_i f;refine⟨N,[],Y,?_,by rw[bR]⟩;have:k.getD a V=V:=by
   rw[ct];cases c:k[a]? with
   |none=>rfl
   |some m=>
    cases m with
    |none=>rfl
    |some x=>exact absurd c (f x)
  rw[this];exact rfl
theorem zz{j:ax}{w:aZ}:∀{SF:List Nat}{k:aW}{N:List ag},SF.Nodup->bc j k w N->∃Sg Sp,bc j (jO SF k) w Sg/\bc j (jf SF k) (SF.map λa=>w.getD a V) Sp/\(Sg++Sp).Perm N
 |[],k,N,_,Y=>⟨N,[],Y,⟨rfl,rfl⟩,by rw[bR]⟩
 |a::u,k,N,aj,Y=>by
  let⟨Sg,@Sp,t,A,f⟩:=Y.void a;have b:=f9.mp aj;let⟨g,@d,h,e,i⟩:=zz (SF:=u) b.2 t;refine⟨g,Sp++d,h,⟨_,_,Sp,d,rfl,A,?_,rfl⟩,kl.trans<|(dp _ i).trans<|cW.trans f⟩;have c:jf u (match k[a]? with|some (Z _)=>k.set a (Z .ed)|_=>k)=jf u k:=by
   unfold jf;refine qi λr l=>?_;split
   ·rw[ct,ct,nu];rintro rfl;exact b.1 l
   ·rfl
  rw[c]at e;exact e
def bc.J2(Y:bc j k w N)(d:lJ j m (w.getD a V) R2):∃Sg Sp,bc j (k.set a m) w Sg/\(Sg++Sp).Perm (N++R2):=by
 cases m with
 |some x=>
  let⟨@s,c,H⟩:=d;refine Y.back H ?_;rw[ct]at c;cases q:w[a]? with
  |none=>rw[q]at c;cases c
  |some f=>rw[q]at c;rw[show f=Z s from c]
 |none=>
  cases (show R2=[] from d);rw[bR];by_cases RT:a<k.length
  ·cases q:k[a]? with
   |none=>exact absurd (List.getElem?_eq_none_iff.mp q) ⋯
   |some f=>
    cases f with
    |none=>
     refine⟨N,[],?_,by rw[bR]⟩;have:k.set a V=k:=by
      refine oY λr=>?_;by_cases c:a=r
      ·subst c;rw[q,rU RT]
      ·rw[nu c]
     rw[this];exact Y
    |some x=>
     let⟨s,Sg,@Sp,t,A,l,n⟩:=Y.out q;have gen:∀{k:aW}{w:aZ}{N:List ag}{a:Nat},bc j k w N->∃Sg Sp,bc j (k.set a V) w Sg/\(Sg++Sp).Perm N:=by
      intro k;induction k with
      |nil=>intro w N a Y;exact⟨N,[],by simpa using Y,by rw[bR]⟩
      |cons m k e=>
       intro w N a Y;let⟨f,u,O,@SM,rfl,g,b,rfl⟩:=Y;cases a with
       |zero=>exact⟨SM,O,⟨f,u,[],SM,rfl,rfl,b,rfl⟩,cW⟩
       |succ a=>
        let⟨ae,@RW,h,i⟩:=e (a:=a) b;refine⟨O++ae,RW,⟨f,u,O,ae,rfl,g,h,rfl⟩,?_⟩;rw[bg];exact dp _ i
     exact gen Y
  ·refine⟨N,[],?_,by rw[bR]⟩;rw[List.set_eq_of_length_le ⋯];exact Y
theorem za{j:ax}{w:aZ}:∀{SF:List Nat}{ae k:aW}{N R2:List ag},bc j k w N->bc j ae (SF.map λa=>w.getD a V) R2->∃Sg Sp,bc j (ha SF ae k) w Sg/\(Sg++Sp).Perm (N++R2)
 |[],ae,k,N,R2,Y,_=>⟨N,R2,by cases ae<;>exact Y,List.Perm.refl _⟩
 |a::u,[],k,N,R2,Y,d=>⟨N,R2,Y,List.Perm.refl _⟩
 |a::u,m::ae,k,N,R2,Y,d=>by
  let⟨f,y,i,@l,c,t,A,rfl⟩:=d;cases c;let⟨Sg,@O,b,e⟩:=Y.J2 t;let⟨Sp,@SM,g,h⟩:=za (SF:=u) (ae:=ae) b A;refine⟨Sp,SM++O,g,?_⟩;rw[<-bg,<-bg];refine (eo O h).trans ?_;rw[bg];refine (dp Sg cW).trans ?_;rw[<-bg];exact eo _ e
def Pf:∀{SF:List Nat}{ae k:aW},SF.length=ae.length->SF.Nodup->ha SF ae (jO SF k)=ha SF ae k:=by
 have j:∀{u:List Nat}{ae k:aW}{a:Nat}{m:Option ai},a∉u->ha u ae (k.set a m)=(ha u ae k).set a m:=by
  intro u;induction u with
  |nil=>intro ae k a m W;cases ae<;>rfl
  |cons r u b=>
   intro ae k a m d;cases ae with
   |nil=>rfl
   |cons p ae=>
    have f:a≠r:=λc=>d (by rw[c];exact .head _);show ha u ae ((k.set a m).set r p)=(ha u ae<|k.set r p).set a m;rw[v5 _ _ f,b λC=>d<|.tail _ C]
 have g:∀{u:List Nat}{k:aW}{a:Nat}{m:Option ai},a∉u->jO u (k.set a m)=(jO u k).set a m:=by
  intro u;induction u with
  |nil=>intro k a m W;rfl
  |cons r u b=>
   intro k a m d;have f:a≠r:=λc=>d (by rw[c];exact .head _);show jO u (match (k.set a m)[r]? with|some (Z _)=>(k.set a m).set r (Z .ed)|_=>k.set a m)=(jO u (match k[r]? with|some (Z _)=>k.set r (Z .ed)|_=>k)).set a m;rw[nu f];cases k[r]? with
   |none=>exact b λC=>d (.tail _ C)
   |some q=>
    cases q with
    |none=>exact b λC=>d (.tail _ C)
    |some x=>
     show jO u ((k.set a m).set r<|Z .ed)=_;rw[v5 _ _ f];exact b λC=>d (.tail _ C)
 intro SF;induction SF with
 |nil=>intro ae k W W;cases ae<;>rfl
 |cons a u b=>
  intro ae k h aj;have e:=f9.mp aj;cases ae with
  |nil=>cases h
  |cons p ae=>
   have i:u.length=ae.length:=by simpa using h
   show ha u ae ((jO u (match k[a]? with|some (Z _)=>k.set a (Z .ed)|_=>k)).set a p)=ha u ae (k.set a p);split
   ·rw[g e.1,o3,<-g e.1,b i e.2]
   ·rw[<-g e.1,b i e.2]
theorem Df{j:ax}{k:aW}{u:aZ}{N:List ag}(d:bc j k u N):∀{own:List au},bc j (List.replicate own.length V++k) (own.map (λ_=>V)++u) N
 |[]=>d
 |f::own=>⟨V,_,[],N,rfl,rfl,Df d (own:=own),rfl⟩
theorem xV{j:ax}:∀{v:Nat}{k:aW}{w:aZ}{N:List ag},bc j k w N->∃Sg Sp,bc j (k.drop v) (w.drop v) Sg/\(Sg++Sp).Perm N
 |0,k,w,N,d=>⟨N,[],d,by rw[bR]⟩
 |v+1,[],w,N,d=>by
  cases d.1;exact⟨[],N,⟨rfl,rfl⟩,List.Perm.refl _⟩
 |v+1,m::k,w,N,d=>by
  let⟨f,u,O,@SM,rfl,t,A,rfl⟩:=d;let⟨Sg,@Sp,a,b⟩:=xV (v:=v) A;exact⟨Sg,Sp++O,a,by rw[<-bg];exact (eo O b).trans cW⟩
def a4.both(g:a4 j N R5 (Sg++R1)):a4 j N R5 Sg:=g.less (List.Perm.refl _)
theorem bx.snoc:∀{E:List X}{T:List ao}{x:X}{s:ao},bx j E T->cq j x s->bx j (E++[x]) (T++[s])
 |[],T,x,s,d,H=>by cases (show T=[] from d);exact⟨s,[],rfl,H,rfl⟩
 |c::E,T,x,s,d,H=>by
  let⟨I,@u,rfl,t,A⟩:=d;exact⟨I,u++[s],rfl,t,A.snoc H⟩
variable{G:hq}
def Iz(aj:SF.Nodup)(d:lH (gK own.length SF G Tf Tc Ts) w j B):
  wC own SF (xe G) (λ_=>vR (qb own.length SF.length) Tf) (λ_=>jT Tc) (λ_=>lH Ts) w j B:=by
 let⟨k,N,u,@Sl,Y,f0,f1,q⟩:=d;let⟨@⟨⟨z,m⟩,R_⟩,t,A⟩:=bu.mp f1;let⟨@⟨E,bs⟩,f2,f4⟩:=cB.mp A;cases f4;refine⟨k,N,(z,m),R_,Y,f0,t,λSY R5 Sg R1 f8 R0 ga ge gl lf=>?_⟩;let⟨T,@L,bv,y,Sr⟩:=zz aj f8;have ca:a4 j N R5 (L++(T++R1)):=gl.iZ (by
  refine (eo R1 Sr.symm).trans ?_;rw[bg];exact kl)
 have cd:=c1.mp ca.aj;have gt:∀f∈T++R1,fp R5 f:=λf H=>by
  rcases dJ.mp H with H|H
  ·exact bv.chg f H
  ·exact ge f H
 have U:∀{Sf:ax}{Sp:List ag},a4 R5 L Sf Sp->∀g∈T++R1,∀I,R5 g=Z I->Sf g=Z I:=λh g b I c=>h.keep g I c λd=>cd.2.2 g d g b rfl;refine⟨λa i Sh S=>i+a=z.length/\∃p ae J,bc S ae (SF.map λa=>w.getD a V) J/\ae.length=SF.length/\a4 R5 L S J/\bx S p Sh/\g0 own.length Tf Tc Ts (z.drop a) p ae=Z (E,bs),
  ⟨z.length,rfl,[],jf SF R_,L,y,by rw[jf,bt],a4.perm cd.1<|List.Perm.refl _,rfl,f2⟩,?_⟩;rintro a i Sh S ⟨al,p,ae,J,ce,g1,RV,ch,am⟩;by_cases ci:a<z.length
 ·let@⟨g2,g3⟩:=R0.go S RV.tup (λg b=>U RV g<|di _ b) a z[a] (by simp[ci]);rw[iK ci,g0]at am;let⟨@l,cw,cp⟩:=bu.mp am;let⟨@⟨e,as⟩,c_,P⟩:=bu.mp cp;refine .inr ⟨g2,λcl Sf=>(i-1)+(a+1)=z.length/\∃p ae J,bc Sf ae (SF.map λa=>w.getD a V) J/\ae.length=SF.length/\a4 R5 L Sf J/\bx Sf p cl/\g0 own.length Tf Tc Ts (z.drop<|a+1) p ae=Z (E,bs),λcl Sf d=>⟨i-1,⋯,d⟩,λf Sf H=>?_⟩;let@⟨D,hd⟩:=g3 f Sf H;have he:=ce.mono D.tupS λg W m c=>D g m c;have co:=RV.same D;have an:=ch.mono D.tupS.tup;refine⟨List.replicate own.length V++ae,J,.im z[a],[],l,Df he,⟨hd,rfl⟩,by rw[bR];exact co.aj,cw,λa1 hf cr ap cs a2=>⟨λr s n=>?_,?_⟩⟩
  ·
   have li:own.length<=r:=by
    by_cases hm:r<own.length
    ·rw[i9,lY ⇑hm,dT]at n;cases c:own[r]? with
     |none=>rw[c]at n;cases n
     |some C=>rw[c]at n;cases n
    ·lia
   have lm:r<own.length+SF.length:=by
    have:=(e4.mp n).1
    rwa [i9,d4,bt,bt]at this
   have al:r∈qb own.length SF.length:=dS.mpr ⟨r-own.length,en.mpr ⋯,⋯⟩;exact (ap.2 r al).trans n
  ·have db:a4 R5 L hf cr:=co.seq (by rw[bR]at a2;exact a2);have an:=an.mono a2.tup.tup;have ds:a1.drop own.length=SF.map λa=>w.getD a V:=by
    have ln:=cs.len;refine oY λr=>?_;by_cases n:r<SF.length
    ·have al:r+own.length∈qb own.length SF.length:=dS.mpr ⟨r,en.mpr n,rfl⟩;have:=ap.2 _ al;rw[mc,yp,this,i9,kN ↥0,bt,Nat.add_sub_cancel]
    ·have ls:a1.length<=own.length+SF.length:=by
      rw[ap.1,i9,d4,bt,bt];exact bl _
     rw[qL (by rw[gv];lia),qL (by rw[bt];lia)]
   have dL:a1.length=own.length+SF.length:=by rw[ap.1,i9,d4,bt,bt]
   refine⟨l,cr,e,as,cs,db.aj,c_,λlv bd M be=>?_⟩;have Q:=db.seq be;dsimp only at P ⊢;cases e with
   |false=>
    rw[aG c4]at P ⊢;let⟨R,@eq,F,bi⟩:=xV (v:=own.length) M;rw[ds]at F;exact⟨⋯,p,as.drop own.length,R,F,by rw[gv,M.len,dL];lia,Q.less bi,an.mono be.tup.tup,P⟩
   |true=>
    rw[aD rfl]at P ⊢;let⟨@⟨s,ev⟩,hw,O⟩:=bu.mp P;dsimp only at O;split at O
    ·rename_i x;split at O
     ·rename_i lw;refine⟨as,bd,.im x,ev,M,Q.aj,hw,λI mb R mo F Su bm=>?_⟩;let@⟨h0,rfl⟩:=Su;rw[bR]at bm;have ex:=(an.mono be.tup.tup).mono bm.tup.tup;refine⟨ug (show Sh.length<=100000 by rw[<-ex.length];lia) ∅,?_⟩;let⟨ii,@ms,fd,io⟩:=xV (v:=own.length) F;rw[ds]at fd;exact⟨⋯,p++[x],ev.drop own.length,ii,fd,by rw[gv,F.len,dL];lia,(Q.seq bm).less io,ex.snoc h0,O⟩
     ·cases O
    ·cases O
 ·have RT:a=z.length:=⋯
  subst RT;refine .inl ⟨R0.stop S RV.tup<|λg b=>U RV g<|di _ b,λbn fn=>?_⟩;rw[nq (bl _),g0]at am;cases am;have it:bc S (jO SF R_) w T:=bv.mono RV.tup λg b=>U RV g (ea _ b);let⟨bd,@fr,M,jp⟩:=za it ce;rw[Pf (by rw[g1]) aj]at M;have kt:qa S w R1 m:=by
   cases m with
   |none=>trivial
   |some o=>
    let⟨a,x⟩:=o;let⟨@s,kw,lc⟩:=ga;exact⟨s,kw,lc.mono RV.tup λg b=>U RV g<|di _ b⟩
  let⟨R,@eq,F,bi⟩:=wK (R1:=R1) M kt;have D:cI S (upd S bn<|.lst Sh):=(cI.refl S).upd fn;have Q:a4 j N S R:=(ca.trans RV gt).less (ae:=eq++fr) (by
   rw[<-bg];refine (eo fr bi).trans ?_;rw[bg];refine (dp bd cW).trans ?_;rw[<-bg];refine (eo R1 jp).trans ?_;rw[bg];exact kl)
  exact q _ _ R [bn] (F.mono D.tupS λg W m c=>D g m c) ⟨bn,Sh,rfl,dV,ch.mono D.tupS.tup,rfl⟩ (Q.add fn F.chg)
def uL{Tt:bj}{To:List bj}{So:gV}(c:b.calm=aa)(Se:iJ b So own SF)(aj:SF.Nodup)(RT:jP b Sz S4 G)(e:∀a,gM (b.hh (hg b own SF) So a) (qb own.length SF.length) Sz Tf)(bL:∀a,yL (b.hh (hg b own SF) So a) To Tc)(g:∀a,cF (b.hh (hg b own SF) So a) Tt Ts)(R6:∀f,nd S4 b.env f=pure f:=by intro W;rfl):cF b (.ListComp Tt [⟨Sz,S4,To,0⟩] So Sd) (gK own.length SF G Tf Tc Ts):=
 eB (IZ c Se RT e bL g R6) λw j B d=>Iz aj d
end
@[simp] def ix(Sy:List Nat):List ai->aW->Nat->List ai
 |x::E,m::k,r=>(if x.eJ=aa then x else if r∈Sy then m.getD .ed else .ed)::ix Sy E k (r+1)
 |x::E,[],r=>(if x.eJ=aa then x else .ed)::ix Sy E [] (r+1)
 |[],_,_=>[]
@[simp] def dy(v i:Nat)(Sy:List Nat)(L:bF):cX:=λE=>if E.length=v then match L (E.map Z++List.replicate (i-v) V) with
 |some (.dP u,k)=>Z (u,ix Sy E k 0)
 |some (.aL,k)=>Z (.im .aX,ix Sy E k 0)
 |_=>V else V
theorem Bi{j:ax}:∀{E:List ai}{T:List ao}{N:List ag}{i:Nat},cN j E T N->bc j (E.map Z++List.replicate i V) (T.map Z++List.replicate i V) N
 |[],T,N,i,d=>by
  let@⟨rfl,rfl⟩:=d;show bc j (List.replicate i V) (List.replicate i V) [];induction i with
  |zero=>exact⟨rfl,rfl⟩
  |succ i a=>exact⟨V,_,[],[],rfl,rfl,a,rfl⟩
 |x::E,T,N,i,d=>by
  let⟨s,u,Sg,@Sp,rfl,t,A,rfl⟩:=d;exact⟨Z s,_,Sg,Sp,rfl,⟨s,rfl,t⟩,Bi A,rfl⟩
theorem wN{j S:ax}{Sy:List Nat}(y:d8 j S):∀{E:List ai}{T:List ao}{o:List ag}{k:aW}{w:aZ}{N:List ag}{a:Nat},cN j E T o->bc S k w N->(∀(r:Nat) (s:ao),(a+r)∈Sy->T[r]?=Z s->w[r]?=Z (Z s))->
  ∃R1 R2,cN S (ix Sy E k a) T R1/\(R1++R2).Perm N
 |[],T,o,k,w,N,a,d,Y,_=>⟨[],N,by unfold ix;exact⟨d.1,rfl⟩,List.Perm.refl _⟩
 |x::E,T,o,[],w,N,a,d,Y,n=>by
  let⟨s,u,O,@SM,rfl,t,A,rfl⟩:=d;let@⟨rfl,rfl⟩:=Y;let⟨R1,@R2,b,e⟩:=wN (k:=[]) (w:=[]) (N:=[]) (a:=a+1) y A ⟨rfl,rfl⟩ λr s p q=>by
   have:=n (r+1) s (by rw[show a+(r+1)=a+1+r by lia];exact p) ⇑q;simp at this
  rw[ix];refine⟨R1,R2,⟨s,u,[],R1,rfl,?_,b,rfl⟩,e⟩;split
  ·rename_i i;have:=t.mono y λg l=>by rw[t.eJ i]at l;cases l
   rw[t.eJ i]at this;exact this
  ·exact rfl
 |x::E,T,o,m::k,w,N,a,d,Y,n=>by
  let⟨s,u,O,@SM,rfl,t,A,rfl⟩:=d;let⟨f,h,ae,@RW,rfl,z,B,rfl⟩:=Y;let⟨R1,@R2,b,e⟩:=wN (k:=k) (w:=h) (a:=a+1) y A B λr s p q=>by
   have:=n (r+1) s (by rw[show a+(r+1)=a+1+r by lia];exact p) ⇑q;simpa using this
  rw[ix];split
  ·rename_i i;have v:=t.mono y λg l=>by rw[t.eJ i]at l;cases l
   rw[t.eJ i]at v;refine⟨R1,R2++ae,⟨s,u,[],R1,rfl,v,b,rfl⟩,?_⟩;rw[<-bg];exact (eo ae e).trans cW
  ·split
   ·rename_i C;have D:f=Z s:=by
     have:=n 0 s C rfl;simpa using this
    subst D;cases m with
    |none=>
     refine⟨R1,R2++ae,⟨s,u,[],R1,rfl,rfl,b,rfl⟩,?_⟩;rw[<-bg];exact (eo ae e).trans cW
    |some c=>
     let⟨@G,F,H⟩:=z;cases F;refine⟨ae++R1,R2,⟨s,u,ae,R1,rfl,H,b,rfl⟩,?_⟩;rw[bg];exact dp _ e
   ·refine⟨R1,R2++ae,⟨s,u,[],R1,rfl,rfl,b,rfl⟩,?_⟩;rw[<-bg];exact (eo ae e).trans cW
section
variable{R4:bp}{H:a7}{Q:Φ}{aE:au->Option ab}{R7:aV}
def E_{S3:au}{Y:bI}{F:ag}{Si:List au}{L:bF}(N:ft Q f S3 Y F fd)(Se:lT Si RY (dn Y))(w:RY.length=v)(G:∀a∈Sy,a<v)(x:∀(P:ab) (O:bf) (SS:List ee) (h:ah) (j:ax) (RW:fh),dd n (O.deeper<|h5 S3 (dn Y) h.heap.objs.size F P)->hM (j9 gk R4 H Q aE R7 Si S3 (dn Y) F P O SS h j RW).l8 Sy (e5 Y) L):
  fM R4 H Q aE R7 gk (n+1) F fd RY (ib v<|dy v Si.length Sy L):=by
 refine N.ok Se (λT j B RW d=>d.1.trans w.symm) (λP O SS h j T B RW y d=>⟨_,x P O SS h j RW y,?_⟩);let@⟨l,⟨E,k,u,@cj,Su,aj,b,q⟩⟩:=d;have z:E.length=v:=Su.length.trans l;unfold dy at b;rw[aD z]at b;have Y:=Bi (i:=Si.length-v) Su;have U:kf Si T=T.map Z++List.replicate (Si.length-v) V:=by unfold kf;rw[l]
 rw[U];have m:∀{e:aZ}{S:ax}{SA:List ag}{Sl:aW}{s:ao}{R1:List ag},ix Sy E Sl 0=cj->cS Sy (T.map Z++List.replicate (Si.length-v) V) e->bc S Sl e SA->b4 S u s R1->a4 j k S (SA++R1)->B s S:=λ{e S SA Sl s R1} A SO g D RV=>by
  let⟨bB,@R2,o,C⟩:=wN (Sy:=Sy) (a:=0) RV.tup Su g λr s p t=>by
   rw[vc]at p;rw[SO.2 r p,lY (by rw[bt];exact (e4.mp t).1),dT,t];rfl
  rw[A]at o;refine q s S R1 bB D o (RV.less (ae:=R2) ?_);rw[bg];exact (dp R1 C).trans cW
 split at b
 ·rename_i SW Sl c;cases b;exact⟨_,k,.dP u,Sl,Y,aj,c,λs e S SA R1 SO g D RV=>m rfl SO g D RV⟩
 ·rename_i Sl c;cases b;exact⟨_,k,.aL,Sl,Y,aj,c,λe S SA SO g RV=>m rfl SO g ⟨rfl,rfl⟩ (by rw[bR];exact RV)⟩
 ·cases b
end
def b6(j:ax)(x:ai)(B:cx):Prop:=(∀s S R1,cI j S->b4 S x s R1->R1.Nodup->(∀g∈R1,j g=V)->B s S)
def b6.C9{x:X}(q:b6 j (.im x) B)(h:cI j S)(d:cq S x s):B s S:=q s S [] h ⟨d,rfl⟩ iy (λg a=>nomatch a)
def b6.i{j:ax}{x:X}{B:cx}{s:ao}(q:b6 j (.im x) B)(d:cq j x s):B s j:=q.C9 (cI.refl j) d
def b6.l{o:ag}(q:b6 j (.lst E) B)(a:j o=V)(d:bx j E z):B (.ref o) (upd j o<|.lst z):=by
 have h:cI j (upd j o<|.lst z):=(cI.refl j).upd a;exact q _ _ [o] h ⟨o,z,rfl,dV,d.mono h.tupS.tup,rfl⟩ (eY _ _) λg b=>by rw[cm.mp b];exact a
def b6.t{j:ax}{E:List X}{z:List ao}{B:cx}{o:ag}(q:b6 j (.im<|.tup E) B)(a:j o=V)(d:bx j E z):B (.ref o) (upd j o<|.tup z):=by
 have h:cI j (upd j o<|.tup z):=(cI.refl j).upd a;exact q.C9 h ⟨o,z,rfl,dV,d.mono h.tupS.tup⟩
section
variable{b:aJ}
def dO.imp{F:ab->ab->c8 ab}{u:bB}(d:dO b F u)(a:∀f D j B,SW f D j B->u f D j B):dO b F SW:=λG h w j f D s I B l c e g=>d G h w j f D s I B l c e (a f D j B g)
def e7.imp{F:ab}{u SW:List ao->ax->cx->Prop}(d:e7 b F u)(a:∀z j B,SW z j B->u z j B):e7 b F SW:=λG h w j z Sk B l c e=>d G h w j z Sk B l c (a z j B e)
def gY.imp{u:bB}(d:gY b u)(a:∀f D j B,SW f D j B->u f D j B):gY b SW:=λc e G h w j f D s I B l g i k=>d c e G h w j f D s I B l g i (a f D j B k)
def eu.i{j:ax}{x:X}{s:ao}(d:eu j (.im x) s):cq j x s:=d.elim λ_ H=>H.1
end
abbrev f6:=ai->ai->Option ai
@[simp] def h6(ae:Int->Int->Bool)(L:Int->Int->X):f6:=λg e=>match g,e with
 |.im (.int a),.im (.int r)=>if ae a r=aa then Z (.im<|L a r) else V
 |_,_=>V
def EB{ae:Int->Int->Bool}{L:Int->Int->X}{g e:ai}(d:h6 ae L g e=Z x):∃a r,g=.im (.int a)/\e=.im (.int r)/\ae a r=aa/\x=.im (L a r):=by
 unfold h6 at d;split at d
 ·rename_i a r;split at d
  ·rename_i b;cases d;exact⟨a,r,rfl,rfl,b,rfl⟩
  ·cases d
 ·cases d
section
variable{b:aJ}
variable{F:ab->ab->c8 ab}{L:Int->Int->ao}{d:Int->Int->X}
def tW{ae:Int->Int->Prop}{SM:Int->Int->Bool}(m:dO b F (pI ae L))(e:∀a r,SM a r=aa->ae a r)(g:∀j a r,cq j (d a r)<|L a r):ff b F (h6 SM d):=
 m.imp λf D j B ⟨Sx,SK,x,h,k,c,q⟩=>by
  let⟨a,@r,rfl,rfl,l,rfl⟩:=EB c;exact⟨a,r,h.i,k.i,e a r l,b6.i q<|g j a r⟩
def rH(m:dO b F (kZ L))(e:∀j a r,cq j (d a r)<|L a r):ff b F (h6 (λ_ W=>aa) d):=
 m.imp λf D j B ⟨Sx,SK,x,g,h,c,q⟩=>by
  let⟨a,@r,rfl,rfl,k,rfl⟩:=EB c;exact⟨a,r,g.i,h.i,b6.i q<|e j a r⟩
@[simp] def hi:f6:=h6 (λ_ W=>aa) λa r=>.int (a-r)
def gA(a r:Int):Bool:=(!(decide (bq.Int.intBits a>uk)&&decide (bq.Int.intBits r>uk)&&bq.Int.intTooBig (bq.Int.intBits a+bq.Int.intBits r)))
@[simp] def h2:f6:=h6 gA λa r=>.int (a*r)
@[simp] def u5:f6:=h6 (λ_ r=>decide (0<r/\r<1073741824)) λa r=>.int (a/r)
@[simp] def fg:f6:=h6 (λ_ r=>decide (0<r)) λa r=>.int (a%r)
@[simp] def qK:f6:=h6 (λa r=>decide (0<=r/\r<=1000000/\a.natAbs<2^64)) λa r=>.int (a^r.toNat)
@[simp] def z8:f6:=h6 (λ_ W=>aa) λa r=>.aN (decide (a<r))
@[simp] def fZ:f6:=h6 (λ_ W=>aa) λa r=>.aN (decide (a<=r))
@[simp] def pU:f6:=h6 (λ_ W=>aa) λa r=>.aN (decide (r<a))
@[simp] def ry:f6:=h6 (λ_ W=>aa) λa r=>.aN (decide (r<=a))
def la:ff b (fH .Sub) hi:=rH Nz λ_ W W=>rfl
def jS:ff b (fH .Mult) h2:=tW PR (λa r d=>by unfold gA at d;unfold IntMulOk;rw[t9]at d;rw[d];exact c4) λ_ W W=>rfl
def zX:ff b (fH .FloorDiv) u5:=tW MB (λa r d=>show 0<r/\r<1073741824 from fK d) λ_ W W=>rfl
def ic:ff b (fH .Mod) fg:=tW Ll (λa r d=>fK d) λ_ W W=>rfl
def uI:ff b (fH .Pow) qK:=tW IX (λa r d=>show 0<=r/\r<=1000000/\a.natAbs<2^64 from fK d) λ_ W W=>rfl
def MT:ff b (ej .Lt) z8:=rH Le λ_ W W=>rfl
def sG:ff b (ej .LtE) fZ:=rH O6 λ_ W W=>rfl
def Cf:ff b (ej .Gt) pU:=rH I_ λ_ W W=>rfl
def BS:ff b (ej .GtE) ry:=rH PB λ_ W W=>rfl
def QY:dO b (fH .Add) (λf D j B=>∃g e Sh,f=.ref g/\D=.ref e/\c7 b.K j g []/\c7 b.K j e Sh/\B (.ref e) j):=by
 intro G h w j f D s I B l p r d;let⟨g,e,@Sh,rfl,rfl,t,u,q⟩:=d;cases p;cases r;let⟨@Sa,x,y,W⟩:=l.tuple t;let⟨@E,F,SU,W⟩:=l.tuple u;have c:Sa=[]:=x.ts.mpr rfl;subst c;let⟨@⟨cls,z,data,bJ⟩,a,i,⟨@v,k⟩⟩:=id y;let⟨@⟨H,A,data2,C⟩,m,n,⟨@S8,o⟩⟩:=id SU;simp only at i k n o;subst i k n o;exact wD ⟨_,a,rfl⟩ ⟨_,m,rfl⟩ w3 xi ym yk (vy _ _) (tuple_addW0 g e _ _ v S8 z A bJ C rfl) ⟨a,m,.ref e,j,l,rfl,q⟩
@[simp] def dv:f6:=λg e=>match g,e with
 |.im (.int a),.im (.int r)=>Z (.im<|.int<|a+r)
 |.im (.tup f),.im (.tup D)=>if f.length+D.length<=100000 then Z (.im<|.tup<|f++D) else V
 |.lst f,.lst D=>if f.length+D.length<=100000 then Z (.lst<|f++D) else V
 |.im (.str f),.im (.str D)=>if f.length+D.length<=100000 then Z (.im<|.str<|f++D) else V
 |_,_=>V
theorem bx.app:∀{g e:List X}{f D:List ao},bx j g f->bx j e D->bx j (g++e) (f++D)
 |[],e,f,D,d,n=>by cases (show f=[] from d);exact n
 |x::g,e,f,D,d,n=>by
  let⟨s,@u,rfl,t,A⟩:=d;exact⟨s,u++D,rfl,t,A.app n⟩
def bx.nil{j:ax}{g:List X}(d:bx j g []):g=[]:=by
 cases g with
 |nil=>rfl
 |cons x g=>let⟨W,@W,c,W⟩:=d;cases c
def fo:ff b (fH .Add) dv:=by
 refine (PC.or<|QY.or<|HC.or<|Lc.or MF).imp λf D j B w=>?_;let⟨Sx,SK,@x,n,p,c,q⟩:=w;unfold dv at c;split at c
 ·cases c;exact .inl ⟨_,_,n.i,p.i,b6.i q rfl⟩
 ·rename_i g e;split at c
  ·rename_i h;cases c;let⟨o,@z,rfl,t,A⟩:=n.i;let⟨k,@Sh,rfl,m,d⟩:=p.i;refine .inr ?_;by_cases s:z=[]
   ·subst s;cases A.nil;exact .inl ⟨o,k,Sh,rfl,rfl,c7.of t,c7.of m,b6.i q ⟨k,Sh,rfl,m,d⟩⟩
   ·refine .inr (.inl ⟨o,k,z,Sh,rfl,rfl,c7.of t,c7.of m,s,m1 (by rw[<-A.length,<-d.length];exact h),λu=>?_,λu v r=>b6.t q r<|A.app d⟩);subst u;cases d.nil;rw[bR]at q;exact b6.i q ⟨o,z,rfl,t,A⟩
  ·cases c
 ·rename_i g e;split at c
  ·rename_i h;cases c;let⟨W,o,@z,rfl,t,A,W⟩:=n;let⟨W,k,@Sh,rfl,m,d,W⟩:=p;exact .inr (.inr (.inr (.inl ⟨o,k,z,Sh,rfl,rfl,t,m,m1 (by rw[<-A.length,<-d.length];exact h),λv r=>b6.l q r<|A.app d⟩)))
  ·cases c
 ·rename_i g e;split at c
  ·rename_i h;cases c;exact .inr (.inr<|.inr<|.inr ⟨g,e,n.i,p.i,m1 h,b6.i q rfl⟩)
  ·cases c
 ·cases c
def H8(v:Nat){O:bf}{f D:X}{I s:ab}(k:X.a5 v f=aa)(aY:X.a5 v D=aa)(S:O.units+v+2<bD)(l:c0 h.heap f I)(b:c0 h.heap D s):SeqAt.RcAt O h I s (b3 f D):=by
 cases f with
 |aX=>
  cases (show I=.none from l);cases D with
  |aX=>cases (show s=.none from b);exact Lk
  |aN e=>cases (show s=.bool e from b);exact QE e
  |int r=>let⟨@y,rfl⟩:=b;exact KG r y
  |str C=>let⟨@y,rfl⟩:=b;exact Nj C y
  |tup E=>let⟨g,m,Sm,@i,rfl,t,A,j,W⟩:=b;exact MJ ⟨m,t,A,i,j⟩ ⋯
  |fn g=>cases v<;>cases aY
  |aT g=>cases v<;>cases aY
  |fd=>cases v<;>cases aY
 |aN e=>
  cases (show I=.bool e from l);cases D with
  |aX=>cases (show s=.none from b);exact Jh e
  |aN p=>cases (show s=.bool p from b);exact NN e p
  |int r=>let⟨@y,rfl⟩:=b;exact PA e r y
  |str C=>let⟨@y,rfl⟩:=b;exact Pm e C y
  |tup E=>let⟨g,m,Sm,@i,rfl,t,A,j,W⟩:=b;exact Ho e ⟨m,t,A,i,j⟩ ⋯
  |fn g=>cases v<;>cases aY
  |aT g=>cases v<;>cases aY
  |fd=>cases v<;>cases aY
 |int a=>
  let⟨@d,rfl⟩:=l;cases D with
  |aX=>cases (show s=.none from b);exact Ig a d
  |aN p=>cases (show s=.bool p from b);exact Ie a d p
  |int r=>let⟨@y,rfl⟩:=b;exact NY a d r y
  |str C=>let⟨@y,rfl⟩:=b;exact Jm a d C y
  |tup E=>let⟨g,m,Sm,@i,rfl,t,A,j,W⟩:=b;exact JK a d ⟨m,t,A,i,j⟩ ⋯
  |fn g=>cases v<;>cases aY
  |aT g=>cases v<;>cases aY
  |fd=>cases v<;>cases aY
 |str a=>
  let⟨@d,rfl⟩:=l;cases D with
  |aX=>cases (show s=.none from b);exact GQ a d
  |aN p=>cases (show s=.bool p from b);exact He a d p
  |int r=>let⟨@y,rfl⟩:=b;exact Jz a d r y
  |str C=>let⟨@y,rfl⟩:=b;exact P6 a d C y
  |tup E=>let⟨g,m,Sm,@i,rfl,t,A,j,W⟩:=b;exact HS a d ⟨m,t,A,i,j⟩ ⋯
  |fn g=>cases v<;>cases aY
  |aT g=>cases v<;>cases aY
  |fd=>cases v<;>cases aY
 |fn g=>cases v<;>cases k
 |aT g=>cases v<;>cases k
 |fd=>cases v<;>cases k
 |tup E=>
  cases v with
  |zero=>cases k
  |succ v=>
  let⟨g,m,Sm,@i,rfl,t,A,j,o⟩:=l;have SP:h.heap.IsTuple g Sm:=⟨m,t,A,i,j⟩;cases D with
  |aX=>cases (show s=.none from b);exact QK SP ⋯
  |aN p=>cases (show s=.bool p from b);exact Qb p SP ⋯
  |int r=>let⟨@y,rfl⟩:=b;exact HH r y SP ⋯
  |str C=>let⟨@y,rfl⟩:=b;exact I4 C y SP ⋯
  |fn g=>cases aY
  |aT g=>cases aY
  |fd=>cases aY
  |tup U=>
   let⟨e,SG,n,@F,rfl,G,H,J,u⟩:=b;have S7:h.heap.IsTuple e n:=⟨SG,G,H,F,J⟩;have w:=o.length;have x:=u.length;have L:Sm.toList.length=Sm.size:=by simp
   have M:n.toList.length=n.size:=by simp
   rw[L]at w;rw[M]at x;have q:=CN (A:=O) (e:=λr=>b3 (E.getD r .aX)<|U.getD r .aX) SP S7 ⋯ λr N P=>by
    let⟨@Sx,z,Q⟩:=o.get (r:=r) (s:=Sm[r]) (by rw[eg];simp[N]);let⟨@SK,B,R⟩:=u.get (r:=r) (s:=n[r]) (by rw[eg];simp[P]);rw[ct,z,ct,B];exact iw v (jo k z) (jo aY B) (by show O.units+1+v+1<bD;lia) Q R
   rw[<-w,<-x,rF (E:=E) (U:=U) (λr f D g e=>by rw[ct,g,ct,e];rfl)]at q;rw[b3];exact q
@[simp] def iH:f6:=λg e=>match g,e with
 |.im f,.im D=>if (X.a5 8 f&&X.a5 8 D)=aa then Z (.im<|.aN<|b3 f D) else V
 |.lst f,.lst D=>if (X.c5 8 f&&X.c5 8 D)=aa then Z (.im<|.aN<|e1 f D) else V
 |_,_=>V
theorem wH:∀{f D:List X},f.length≠D.length->e1 f D=ay
 |[],[],d=>absurd rfl d
 |[],_::_,_=>rfl
 |_::_,[],_=>rfl
 |g::f,e::D,d=>by
  rw[e1,wH (λc=>d (by rw[dA,dA,c])),Gu]
def n7{G:List (ag×a3)}(l:aB b G w j h){g:ag}{z:List ao}{E:List X}(t:j g=Z (.lst z))(A:bx j E z):∃Sa:List ab,h.heap.IsList g Sa.toArray/\dg h.heap E Sa/\Sa.length=E.length:=by
 let@⟨C,⟨Sa,@v,a,c⟩⟩:=l.a0 g _ t;have:=A.eO l.a0 a;exact⟨Sa,⟨_,c,rfl,v,rfl⟩,this,this.length.symm⟩
def Bk(an:b.A.units+20<bD):ff b (ej .Eq) iH:=by
 intro G h w j f D s I B l u v P;let⟨Sx,SK,@x,k,m,c,q⟩:=P;unfold iH at c;split at c
 ·rename_i g e;split at c
  ·rename_i d;cases c;rw[cC]at d;exact H8 8 d.1 d.2 ⋯ (k.i.eO l.a0 u) (m.i.eO l.a0 v) b.prog b.w _ _ ⟨.aN _,j,l,rfl,b6.i q rfl⟩
  ·cases c
 ·rename_i g e;split at c
  ·rename_i d;cases c;rw[cC]at d;let⟨W,o,@z,rfl,t,A,W⟩:=k;let⟨W,ap,@Sh,rfl,Q,R,W⟩:=m;cases u;cases v;let⟨@S,y,T,p⟩:=n7 l t A;let⟨@al,C,am,S8⟩:=n7 l Q R;by_cases n:g.length=e.length
   ·have:=O1 (A:=b.A) (e:=λr=>b3 (g.getD r .aX)<|e.getD r .aX) y C (by rw[cO,cO,p,S8];exact n) ⋯ λr F J=>by
     let⟨@Sx,L,k⟩:=T.get (r:=r) (s:=S.toArray[r]) (by simp at F;simp[F]);let⟨@SK,M,m⟩:=am.get (r:=r) (s:=al.toArray[r]) (by simp at J;simp[J]);rw[ct,L,ct,M];exact iw 8 (jo d.1 L) (jo d.2 M) (by show b.A.units+1+8+1<bD;lia) k m
    refine this b.prog b.w _ _ ⟨.aN _,j,l,rfl,?_⟩;have N:=rF (E:=g) (U:=e) (c:=λr=>b3 (g.getD r .aX)<|e.getD r .aX) (λr f D g e=>by rw[ct,g,ct,e];rfl);rw[<-n,FX,gX,vG]at N;rw[cO,p,N];exact b6.i q rfl
   ·refine Hn (A:=b.A) y C (by rw[cO,cO,p,S8];simpa using n) ⋯ b.prog b.w _ _ ⟨.aN _,j,l,rfl,?_⟩;rw[wH n]at q;exact b6.i q rfl
  ·cases c
 ·cases c
end
section
variable{b:aJ}
def HL(v:Nat){O:bf}{f D:X}{I s:ab}(k:X.a5 v f=aa)(aY:X.a5 v D=aa)(S:O.units+v+2<bD)(l:c0 h.heap f I)(b:c0 h.heap D s):SeqAt.RcNeAt O h I s (!b3 f D):=by
 cases f with
 |aX=>
  cases (show I=.none from l);cases D with
  |aX=>cases (show s=.none from b);exact O9
  |aN e=>cases (show s=.bool e from b);exact Qc e
  |int r=>let⟨@y,rfl⟩:=b;exact Rk r y
  |str C=>let⟨@y,rfl⟩:=b;exact Ka C y
  |tup E=>let⟨g,m,Sm,@i,rfl,t,A,j,W⟩:=b;exact Mm ⟨m,t,A,i,j⟩ ⋯
  |fn g=>cases v<;>cases aY
  |aT g=>cases v<;>cases aY
  |fd=>cases v<;>cases aY
 |aN e=>
  cases (show I=.bool e from l);cases D with
  |aX=>cases (show s=.none from b);exact Pn e
  |aN p=>cases (show s=.bool p from b);exact Qu e p
  |int r=>let⟨@y,rfl⟩:=b;exact NL e r y
  |str C=>let⟨@y,rfl⟩:=b;exact IW e C y
  |tup E=>let⟨g,m,Sm,@i,rfl,t,A,j,W⟩:=b;exact Mi e ⟨m,t,A,i,j⟩ ⋯
  |fn g=>cases v<;>cases aY
  |aT g=>cases v<;>cases aY
  |fd=>cases v<;>cases aY
 |int a=>
  let⟨@d,rfl⟩:=l;cases D with
  |aX=>cases (show s=.none from b);exact L7 a d
  |aN p=>cases (show s=.bool p from b);exact Nu a d p
  |int r=>let⟨@y,rfl⟩:=b;exact I2 a d r y
  |str C=>let⟨@y,rfl⟩:=b;exact LP a d C y
  |tup E=>let⟨g,m,Sm,@i,rfl,t,A,j,W⟩:=b;exact OQ a d ⟨m,t,A,i,j⟩ ⋯
  |fn g=>cases v<;>cases aY
  |aT g=>cases v<;>cases aY
  |fd=>cases v<;>cases aY
 |str a=>
  let⟨@d,rfl⟩:=l;cases D with
  |aX=>cases (show s=.none from b);exact HY a d
  |aN p=>cases (show s=.bool p from b);exact ND a d p
  |int r=>let⟨@y,rfl⟩:=b;exact LX a d r y
  |str C=>let⟨@y,rfl⟩:=b;exact GJ a d C y
  |tup E=>let⟨g,m,Sm,@i,rfl,t,A,j,W⟩:=b;exact Hf a d ⟨m,t,A,i,j⟩ ⋯
  |fn g=>cases v<;>cases aY
  |aT g=>cases v<;>cases aY
  |fd=>cases v<;>cases aY
 |fn g=>cases v<;>cases k
 |aT g=>cases v<;>cases k
 |fd=>cases v<;>cases k
 |tup E=>
  cases v with
  |zero=>cases k
  |succ v=>
  let⟨g,m,Sm,@i,rfl,t,A,j,o⟩:=l;have SP:h.heap.IsTuple g Sm:=⟨m,t,A,i,j⟩;cases D with
  |aX=>cases (show s=.none from b);exact Ku SP ⋯
  |aN p=>cases (show s=.bool p from b);exact Lr p SP ⋯
  |int r=>let⟨@y,rfl⟩:=b;exact Lx r y SP ⋯
  |str C=>let⟨@y,rfl⟩:=b;exact OY C y SP ⋯
  |fn g=>cases aY
  |aT g=>cases aY
  |fd=>cases aY
  |tup U=>
   let⟨e,SG,n,@F,rfl,G,H,J,u⟩:=b;have S7:h.heap.IsTuple e n:=⟨SG,G,H,F,J⟩;have w:=o.length;have x:=u.length;have L:Sm.toList.length=Sm.size:=by simp
   have M:n.toList.length=n.size:=by simp
   rw[L]at w;rw[M]at x;have q:=JJ (A:=O) (e:=λr=>b3 (E.getD r .aX)<|U.getD r .aX) SP S7 ⋯ λr N P=>by
    let⟨@Sx,z,Q⟩:=o.get (r:=r) (s:=Sm[r]) (by rw[eg];simp[N]);let⟨@SK,B,R⟩:=u.get (r:=r) (s:=n[r]) (by rw[eg];simp[P]);rw[ct,z,ct,B];exact iw v (jo k z) (jo aY B) (by show O.units+1+v+1<bD;lia) Q R
   rw[<-w,<-x,rF (E:=E) (U:=U) (λr f D g e=>by rw[ct,g,ct,e];rfl)]at q;rw[b3];exact q
@[simp] def dD:f6:=λg e=>match g,e with
 |.im f,.im D=>if (X.a5 8 f&&X.a5 8 D)=aa then Z (.im<|.aN<|!b3 f D) else V
 |.lst f,.lst D=>if (X.c5 8 f&&X.c5 8 D)=aa then Z (.im<|.aN<|!e1 f D) else V
 |_,_=>V
def iu(an:b.A.units+20<bD):ff b (ej .NotEq) dD:=by
 intro G h w j f D s I B l u v P;let⟨Sx,SK,@x,k,m,c,q⟩:=P;unfold dD at c;split at c
 ·rename_i g e;split at c
  ·rename_i d;cases c;rw[cC]at d;exact HL 8 d.1 d.2 ⋯ (k.i.eO l.a0 u) (m.i.eO l.a0 v) b.prog b.w _ _ ⟨.aN _,j,l,rfl,b6.i q rfl⟩
  ·cases c
 ·rename_i g e;split at c
  ·rename_i d;cases c;rw[cC]at d;let⟨W,o,@z,rfl,t,A,W⟩:=k;let⟨W,ap,@Sh,rfl,Q,R,W⟩:=m;cases u;cases v;let⟨@S,y,T,p⟩:=n7 l t A;let⟨@al,C,am,S8⟩:=n7 l Q R;by_cases n:g.length=e.length
   ·have:=MR (A:=b.A) (e:=λr=>b3 (g.getD r .aX)<|e.getD r .aX) y C (by rw[cO,cO,p,S8];exact n) ⋯ λr F J=>by
     let⟨@Sx,L,k⟩:=T.get (r:=r) (s:=S.toArray[r]) (by simp at F;simp[F]);let⟨@SK,M,m⟩:=am.get (r:=r) (s:=al.toArray[r]) (by simp at J;simp[J]);rw[ct,L,ct,M];exact iw 8 (jo d.1 L) (jo d.2 M) (by show b.A.units+1+8+1<bD;lia) k m
    refine this b.prog b.w _ _ ⟨.aN _,j,l,rfl,?_⟩;have N:=rF (E:=g) (U:=e) (c:=λr=>b3 (g.getD r .aX)<|e.getD r .aX) (λr f D g e=>by rw[ct,g,ct,e];rfl);rw[<-n,FX,gX,vG]at N;rw[cO,p,N];exact b6.i q rfl
   ·refine KI (A:=b.A) y C (by rw[cO,cO,p,S8];simpa using n) ⋯ b.prog b.w _ _ ⟨.aN _,j,l,rfl,?_⟩;rw[wH n]at q;exact b6.i q rfl
  ·cases c
 ·cases c
def ey{Sn:Type}[DecidableEq Sn](R9:List (Sn×X))(n:Sn):Option X:=((R9.find? λo=>decide (o.1=n)).map (·.2))
theorem mz{Sn:Type}[DecidableEq Sn]{j:ax}{n:Sn}:∀{R9:List (Sn×X)}{P:List (Sn×ao)},d_ j R9 P->(∀x,ey R9 n=Z x->∃s,hc P n=Z s/\cq j x s)/\(ey R9 n=V->hc P n=V)
 |_,_,.nil=>⟨(λx c=>by cases c),(λ_=>rfl)⟩
 |_,_,@dC.cons _ _ _ o q _ _ d y=>by
  let@⟨t,A⟩:=mz (n:=n) y;by_cases c:o.1=n
  ·have a:q.1=n:=d.1.symm.trans c;refine⟨λx b=>?_,λe=>?_⟩
   ·have:∀u,ey (o::u) n=Z o.2:=λu=>by simp[ey,iW,c]
    rw[this]at b;cases b;exact⟨q.2,u4 a,d.2⟩
   ·have:∀u,ey (o::u) n=Z o.2:=λu=>by simp[ey,iW,c]
    rw[this]at e;cases e
  ·have a:¬ q.1=n:=λC=>c (d.1.trans C);have:∀u,ey (o::u) n=ey u n:=λu=>by simp[ey,iW,c]
   rw[this,uS a];exact⟨t,A⟩
@[simp] def bo:f6:=λg e=>match g,e with
 |.im (.tup E),.im (.int a)=>(dQ E a).map .im
 |.lst E,.im (.int a)=>(dQ E a).map .im
 |.cv E,.im (.int a)=>(dQ E a).map .im
 |.aO R9,.im (.tup n)=>if X.keys 7 n=aa then (ey R9 n).map .im else V
 |.dN R9,.im (.int a)=>(ey R9<|.inl a).map .im
 |.dN R9,.im (.str a)=>(ey R9<|.inr a).map .im
 |.eV R9,.im (.tup n)=>if X.keys 7 n=aa then (ey R9 n).map .im else V
 |_,_=>V
def Mo(a:b.A.units+20<bD):gY b (λf D j B=>∃g s,f=.ref g/\gc j g D (Z s)/\B s j):=by
 intro Tj m G h w j f D s I B l d e ⟨g,C,c,L,q⟩ R6;subst c;cases d;exact xu (JD l L) z1.lookup (Hw a l L e λn o i k=>⟨C,j,i,k,q⟩) R6
def s9{a:Int}{x:X}(d:bx j E z)(c:dQ E a=Z x):∃s,dQ z a=Z s/\cq j x s:=by
 unfold dQ at c ⊢;rw[<-d.length];let⟨@r,b,e⟩:=bu.mp c;let⟨@s,f,g⟩:=d.get e;exact⟨s,by rw[b];exact f,g⟩
def Aw(F:b.A.units+20<bD):gY b (λf D j B=>∃Sx SK x,eu j Sx f/\eu j SK D/\bo Sx SK=Z x/\∀s S R1,cI j S->b4 S x s R1->R1.Nodup->(∀g∈R1,j g=V)->B s S):=by
 refine (G8.or<|F3.or<|Mo F).imp λf D j B G=>?_;let⟨Sx,SK,@x,u,v,c,q⟩:=G;unfold bo at c;split at c
 ·let⟨@r,d,h⟩:=cB.mp c;cases h;let⟨o,@z,rfl,t,A⟩:=u.i;let⟨@s,l,p⟩:=s9 A d;exact .inr (.inl ⟨o,z,_,s,rfl,v.i,c7.of t,l,b6.i q p⟩)
 ·let⟨@r,d,h⟩:=cB.mp c;cases h;let⟨W,o,@z,rfl,t,A,W⟩:=u;let⟨@s,l,p⟩:=s9 A d;exact .inl ⟨o,z,_,s,rfl,v.i,dE.of t,l,b6.i q p⟩
 ·let⟨@r,d,h⟩:=cB.mp c;cases h;let⟨W,o,z,@m,rfl,t,A,W⟩:=u;let⟨@s,l,p⟩:=s9 A d;exact .inl ⟨o,z,_,s,rfl,v.i,.inl<|.inr ⟨m,t⟩,l,b6.i q p⟩
 ·rename_i R9 n;split at c
  ·rename_i w;let⟨@r,d,h⟩:=cB.mp c;cases h;let⟨W,o,@P,rfl,t,A,W⟩:=u;let⟨@s,l,p⟩:=(mz A).1 r d;let⟨e,@z,rfl,C,E⟩:=v.i;exact .inr (.inr ⟨o,s,rfl,by rw[<-l];exact gc.t t ⟨w,e,z,rfl,C,E⟩,b6.i q p⟩)
  ·cases c
 ·rename_i R9 a;let⟨@r,d,h⟩:=cB.mp c;cases h;let⟨W,o,@P,rfl,t,A,W⟩:=u;let⟨@s,l,p⟩:=(mz A).1 r d;refine .inr (.inr ⟨o,s,rfl,?_,b6.i q p⟩);rw[show D=bW (.inl a) from v.i,<-l];exact gc.k t
 ·rename_i R9 a;let⟨@r,d,h⟩:=cB.mp c;cases h;let⟨W,o,@P,rfl,t,A,W⟩:=u;let⟨@s,l,p⟩:=(mz A).1 r d;refine .inr (.inr ⟨o,s,rfl,?_,b6.i q p⟩);rw[show D=bW (.inr a) from v.i,<-l];exact gc.k t
 ·rename_i R9 n;split at c
  ·rename_i w;let⟨@r,d,h⟩:=cB.mp c;cases h;let⟨W,o,P,@aS,rfl,t,A,W⟩:=u;let⟨@s,l,p⟩:=(mz A).1 r d;let⟨e,@z,rfl,C,E⟩:=v.i;exact .inr (.inr ⟨o,s,rfl,.inr ⟨P,n,e,.inr ⟨aS,t⟩,rfl,⟨w,e,z,rfl,C,E⟩,l.symm⟩,b6.i q p⟩)
  ·cases c
 ·cases c
end
end L2
namespace dj
open Spec PyProof.Rows
section
variable{R3:bp}{H:a7}{O:bf}{RW:ab->ah->Prop}{h:ah}
def Q3{y bJ:ag}{Sa:Array ab}{cU k:ab}{P RT:Option Int}{B:ab->ah->Prop}(o:m8 h.heap y Sa)(R6:h.heap.IsSliceOf bJ cU k .none)(a5:jQ cU P)(a:jQ k RT)(b:b5 Sa.size 0 P=0)(t:b5 Sa.size Sa.size RT=Sa.size)(q:B (.ref y) h):wpAny (aM R3 H) O (mg (.ref y)<|.ref bJ) B RW h:=by
 let⟨@M,c,d,e⟩:=id R6;have ty:h.TypeIs (.ref bJ) "slice" := ⟨M,c,d⟩;unfold mg;try with_reducible refine fU ?_
 first|refine aw (aR ?_)|skip
 refine aw (Bo o.typeIs ∅ ?_);refine aw (rm (name:=au.ofString "__getitem__") o.typeIs pE<|i0 pE o.typeIs CC ?_<|Ed _ _);show wpAny _ _ (bq.Tuple.tupleItemsOf (.ref y) >>= _) _ _ h;refine aw (Eu o ?_);refine aw (lp ty ?_);rw[aD ∅];refine aw (Dm R6 a5 a ?_);rw[b,t];show wpAny _ _ (if (((0:Nat):Int)==0&&(1:Int)==1&&(Sa.size-0)==Sa.size)=aa then _ else _) _ _ h;rw[aD ↥0];refine aw (m:=bq.Tuple.tupleIsExact _) (aw<|lp o.typeIs<|aR ?_);show wpAny _ _ (if (ab.type "tuple" == ab.type "tuple")=aa then _ else _) _ _ h;rw[aD ∅];exact aw (jy<|aR ⟨_,rfl,aR q⟩)
end
end dj
namespace L2
open Spec PyProof.Rows
section
variable{b:aJ}
@[simp] def uN(L:aA ai):aA ai:=λk=>(L k).bind λo=>match o.1 with
 |.im (.int a)=>Z (.im<|.int<|-a,o.2)
 |_=>V
variable{L:aA ai}{Sd:Pos}
def Ko{g:bj}(d:cF b g L):cF b (.UnaryOp .USub g Sd) (uN L):=by
 refine eB (Pw QL d) λw j B c=>?_;let⟨k,N,u,@Sl,Y,aj,e,q⟩:=c;let⟨@⟨f,R_⟩,t,A⟩:=bu.mp e;refine⟨k,N,f,R_,Y,aj,t,λs R5 Sg R1 h Su i=>?_⟩;dsimp only at A;split at A
 ·rename_i a;cases A;exact⟨a,Su.1,q _ R5 Sg [] h ⟨rfl,rfl⟩ (by rw[bR];exact i.both)⟩
 ·cases A
def P1(L:aA (Option Int)):l2:=(λw j B=>∃k N J Sl,bc j k w N/\N.Nodup/\L k=Z (J,Sl)/\∀S SA,bc S Sl w SA->a4 j N S SA->B J S)
def sx(b:aJ)(c:Option bj)(L:aA (Option Int)):Prop:=(∀ ⦃o⦄,Bd b c (P1 L) o)
def DW{c:Option bj}{y Sw:l2}(d:oK b c y)(a:∀w j B,Sw w j B->y w j B):oK b c Sw:=λG h w j B l e=>d G h w j B l (a w j B e)
def ma:aA (Option Int):=(λk=>Z (V,k))
@[simp] def mH(L:aA ai):aA (Option Int):=λk=>(L k).bind λo=>match o.1 with
 |.im (.int a)=>Z (Z a,o.2)
 |_=>V
def Ee:sx b V ma:=by
 refine DW QI λw j B a=>?_;let⟨k,N,u,@Sl,Y,aj,c,q⟩:=a;cases c;exact q j N Y (a4.perm aj<|List.Perm.refl _)
variable{c:bj}
def Fl(d:cF b c L):sx b (Z c) (mH L):=by
 refine DW (Kk d) λw j B e=>?_;let⟨k,N,u,@Sl,Y,aj,g,q⟩:=e;let⟨@⟨f,R_⟩,t,A⟩:=bu.mp g;refine⟨k,N,f,R_,Y,aj,t,λs R5 Sg R1 h Su i=>?_⟩;dsimp only at A;split at A
 ·rename_i a;cases A;exact⟨a,Su.1,q R5 Sg h i.both⟩
 ·cases A
def iO{Sj:Type}(z:List Sj)(P RT:Option Int):List Sj:=((z.drop<|dj.b5 z.length 0 P).take (dj.b5 z.length z.length RT-dj.b5 z.length 0 P))
variable{j:ax}
theorem bx.drop:∀{E:List X}{z:List ao} (v:Nat),bx j E z->bx j (E.drop v) (z.drop v)
 |E,z,0,d=>d
 |[],z,v+1,d=>by cases (show z=[] from d);exact rfl
 |x::E,z,v+1,d=>by
  let⟨s,@u,rfl,t,A⟩:=d;exact A.drop v
theorem bx.take:∀{E:List X}{z:List ao} (v:Nat),bx j E z->bx j (E.take v) (z.take v)
 |E,z,0,d=>rfl
 |[],z,v+1,d=>by cases (show z=[] from d);exact rfl
 |x::E,z,v+1,d=>by
  let⟨s,@u,rfl,t,A⟩:=d;exact⟨s,_,rfl,t,A.take v⟩
def bx.cut{E:List X}{z:List ao}(P RT:Option Int)(d:bx j E z):bx j (iO E P RT) (lO z P RT):=by
 unfold iO lO;rw[d.length];exact (d.drop _).take _
@[simp] def rG(x:ai)(P RT:Option Int):Option ai:=match x with
 |.im (.tup E)=>Z (.im<|.tup<|iO E P RT)
 |.lst E=>Z (.lst<|iO E P RT)
 |.cv E=>Z (.lst<|iO E P RT)
 |_=>V
def P2(Q:Φ):ao->Option Int->Option Int->ax->cx->Prop:=(λf P RT j B=>∃g z,f=.ref g/\c7 Q j g z/\dj.b5 z.length 0 P=0/\dj.b5 z.length z.length RT=z.length/\B (.ref g) j)
def H2:q3 b (λf P RT j B=>∃x u,eu j x f/\rG x P RT=Z u/\b6 j u B):=by
 have all:q3 b (P2 b.K):=by
  intro G h w j f s cU k P RT bJ B l e R6 a5 n d;let⟨g,@z,rfl,F,H,t,q⟩:=d;cases e;let⟨@Sa,u,bL,L⟩:=l.tuple F;have D:Sa.toArray.size=z.length:=by rw[cO];exact u.length.symm
  exact⟨"tuple",_,pE.lookup,bL.typeIs,dj.Q3 bL R6 a5 n (by rw[D];exact H) (by rw[D];exact t) ⟨.ref g,j,l,rfl,q⟩⟩
 intro G h w j f s cU k P RT bJ B l e R6 a5 n I;let⟨x,@u,C,c,q⟩:=I;unfold rG at c;split at c
 ·rename_i E;cases c;let⟨o,@z,rfl,t,A⟩:=C.i;by_cases p:dj.b5 z.length 0 P=0/\dj.b5 z.length z.length RT=z.length
  ·refine all G h w j _ s cU k P RT bJ B l e R6 a5 n ⟨o,z,rfl,c7.of t,p.1,p.2,b6.i q ⟨o,z,rfl,t,?_⟩⟩;have:iO E P RT=E:=by
    unfold iO;rw[A.length,p.1,p.2,mv,ze,<-A.length,q4]
   rw[this];exact A
  ·exact Q5 G h w j _ s cU k P RT bJ B l e R6 a5 n ⟨o,z,rfl,c7.of t,p,λv r=>b6.t q r<|A.cut P RT⟩
 ·cases c;let⟨W,o,@z,rfl,t,A,W⟩:=C;exact Ck G h w j _ s cU k P RT bJ B l e R6 a5 n ⟨o,z,rfl,dE.of t,λv r=>b6.l q r<|A.cut P RT⟩
 ·cases c;let⟨W,o,z,@m,rfl,t,A,W⟩:=C;exact Ck G h w j _ s cU k P RT bJ B l e R6 a5 n ⟨o,z,rfl,.inl<|.inr ⟨m,t⟩,λv r=>b6.l q r<|A.cut P RT⟩
 ·cases c
@[simp] def kW(L:aA bz)(J d:aA (Option Int)):aA ai:=λk=>(L k).bind λo=>(J o.2).bind λq=>(d q.2).bind λu=>(du u.2 o.1).bind λx=>(rG x q.1 u.1).map λa=>(a,u.2)
def EU{P RT:Option bj}{L:aA bz}{n o:aA (Option Int)}{SU:Pos}(v:dm b c L)(z:sx b P n)(C:sx b RT o):cF b (.Subscript c (.Slice P RT V SU) Sd) (kW L n o):=by
 refine eB (Ma H2 v z C) λw j B D=>?_;let⟨k,N,u,@Sl,Y,aj,E,q⟩:=D;let⟨@⟨f,R_⟩,t,A⟩:=bu.mp E;let⟨@⟨J,Sv⟩,F,G⟩:=bu.mp A;let⟨@⟨I,l⟩,M,O⟩:=bu.mp G;let⟨@x,Q,R⟩:=bu.mp O;let⟨@bm,S,T⟩:=cB.mp R;cases T;refine⟨k,N,f,R_,Y,aj,t,λs R5 Sg R1 U p a=>⟨R_,Sg,J,Sv,U,(c1.mp a.aj).1,F,λSf Sp al r=>⟨Sv,Sp,I,l,al,r.aj,M,λam an e ap=>?_⟩⟩⟩;have h:=r.seq ap;have y:g_ am w f s R1:=p.mono h.tup λg as m c=>h.keep g m c λd=>(c1.mp a.aj).2.2 g d g as rfl;have a1:=a.trans h p.chg;exact⟨x,_,y.read e Q,S,λH a2 bd i Su be bi=>q H a2 an bd (e.mono i.tupS λg W m c=>i g m c) Su<|a1.new i be bi e.chg⟩
abbrev jB:=List ai->Option ai
@[simp] def dw:jB:=λE=>match E with
 |[.im (.tup f)]=>Z (.im<|.int f.length)
 |[.lst f]=>Z (.im<|.int f.length)
 |[.cv f]=>Z (.im<|.int f.length)
 |[.hl f]=>Z (.im<|.int f.length)
 |[.dN f]=>Z (.im<|.int f.length)
 |[.im (.str f)]=>if f.length<=100000 then Z (.im<|.int f.length) else V
 |_=>V
variable{T:List ao}
def gy{x:ai}(d:lI j [x] T):∃s,T=[s]/\eu j x s:=by
 let⟨s,@u,rfl,t,A⟩:=d;cases (show u=[] from A);exact⟨s,rfl,t⟩
def DO{x c:ai}(d:lI j [x,c] T):∃s I,T=[s,I]/\eu j x s/\eu j c I:=by
 let⟨s,@u,rfl,t,A⟩:=d;let⟨@I,rfl,a⟩:=gy A;exact⟨s,I,rfl,t,a⟩
def d_.length{Sn:Type}{J:List (Sn×X)}{i:List (Sn×ao)}(d:d_ j J i):J.length=i.length:=dC.length d
def hS:hD b (.builtin "len") dw:=by
 refine (PG.or<|OX.or P4).imp λz j B f=>?_;let⟨E,@x,e,c,q⟩:=f;unfold dw at c;split at c
 ·cases c;let⟨@s,rfl,d⟩:=gy e;let⟨o,@z,rfl,t,A⟩:=d.i;exact .inl ⟨o,z,rfl,.inr<|c7.of t,by rw[<-A.length];exact b6.i q rfl⟩
 ·cases c;let⟨@s,rfl,⟨W,o,@z,rfl,t,A,W⟩⟩:=gy e;exact .inl ⟨o,z,rfl,.inl<|dE.of t,by rw[<-A.length];exact b6.i q rfl⟩
 ·cases c;let⟨@s,rfl,⟨W,o,z,@m,rfl,t,A,W⟩⟩:=gy e;exact .inl ⟨o,z,rfl,.inl<|.inl<|.inr ⟨m,t⟩,by rw[<-A.length];exact b6.i q rfl⟩
 ·cases c;let⟨@s,rfl,⟨W,o,z,@R2,rfl,t,A,W⟩⟩:=gy e;exact .inl ⟨o,z,rfl,.inl<|dE.of t,by rw[<-A.length];exact b6.i q rfl⟩
 ·cases c;let⟨@s,rfl,⟨W,o,@P,rfl,t,A,W⟩⟩:=gy e;exact .inr (.inr ⟨o,P,rfl,t,by rw[<-A.length];exact b6.i q rfl⟩)
 ·split at c
  ·rename_i g;cases c;let⟨@s,rfl,d⟩:=gy e;cases (show s=_ from d.i);exact .inr (.inl ⟨_,rfl,m1 g,b6.i q rfl⟩)
  ·cases c
 ·cases c
@[simp] def hU:jB:=λE=>match E with
 |[x]=>(m7 x).map λf=>.im (.tup f)
 |_=>V
def mj:hD b (.type "tuple") hU:=by
 refine LG.imp λz j B h=>?_;let⟨E,@x,k,c,q⟩:=h;unfold hU at c;split at c
 ·let⟨@f,e,l⟩:=cB.mp c;cases l;let⟨@s,rfl,d⟩:=gy k;unfold m7 at e;split at e
  ·cases e;let⟨o,@z,rfl,t,A⟩:=d.i;exact⟨o,z,rfl,.inr ⟨c7.of t,b6.i q ⟨o,z,rfl,t,A⟩⟩⟩
  ·cases e;let⟨W,o,@z,rfl,t,A,W⟩:=d;exact⟨o,z,rfl,.inl ⟨dE.of t,λJ g=>b6.t q g A⟩⟩
  ·cases e;let⟨W,o,z,@m,rfl,t,A,W⟩:=d;exact⟨o,z,rfl,.inl ⟨.inl<|.inr ⟨m,t⟩,λJ g=>b6.t q g A⟩⟩
  ·cases e
 ·cases c
@[simp] def vInt:jB:=λE=>match E with
 |[.im (.int a)]=>Z (.im<|.int a)
 |[.im (.aN e)]=>Z (.im<|.int<|if e then 1 else 0)
 |_=>V
def F2:hD b (.type "int") vInt:=by
 refine Im.imp λz j B f=>?_;let⟨E,@x,e,c,q⟩:=f;unfold vInt at c;split at c
 ·cases c;let⟨@s,rfl,d⟩:=gy e;cases (show s=_ from d.i);exact .inl ⟨_,rfl,b6.i q rfl⟩
 ·cases c;let⟨@s,rfl,d⟩:=gy e;cases (show s=_ from d.i);exact .inr ⟨_,rfl,b6.i q rfl⟩
 ·cases c
@[simp] def wZ:jB:=λE=>match E with
 |[.im (.int a),.im<|.int r]=>Z (.im<|.int<|if r>a then r else a)
 |_=>V
@[simp] def yt:jB:=λE=>match E with
 |[.im (.int a),.im<|.int r]=>Z (.im<|.int<|if r<a then r else a)
 |_=>V
def Qr(e:b.calm=aa):hD b (.builtin "max") wZ:=by
 refine (OR e).imp λz j B f=>?_;let⟨E,@x,g,c,q⟩:=f;unfold wZ at c;split at c
 ·cases c;let⟨s,@I,rfl,d,n⟩:=DO g;cases (show s=_ from d.i);cases (show I=_ from n.i);exact⟨_,_,rfl,b6.i q rfl⟩
 ·cases c
def Q7(e:b.calm=aa):hD b (.builtin "min") yt:=by
 refine (P7 e).imp λz j B f=>?_;let⟨E,@x,g,c,q⟩:=f;unfold yt at c;split at c
 ·cases c;let⟨s,@I,rfl,d,n⟩:=DO g;cases (show s=_ from d.i);cases (show I=_ from n.i);exact⟨_,_,rfl,b6.i q rfl⟩
 ·cases c
end
section
variable{b:aJ}
variable{f:au}{Sd:Pos}
def wB{a:Int}{y:gJ}(c:ep b f)(d:b.aE f=Z (.int a y))(e:(f==("__debug__" : au))=ay:=by decide):cF b (.Name f Sd) (aF<|.int a):=tY (zI (s:=.int a) c d ⟨y,rfl⟩ e) λ_=>rfl
def Pb{F:ag}(a:ep b f)(c:b.aE f=Z (.ref F))(d:(f==("__debug__" : au))=ay:=by decide):cF b (.Name f Sd) (aF<|.fn F):=tY (zI (s:=.ref F) a c rfl d) λ_=>rfl
end
variable{m:bj}{L:aA (List bz)}{a:Nat}{ty:ai->Bool}{R8:String}{Q:Φ}{SG:eZ}{g:ag}{j:ax}
def a4.chg{N Sg:List ag}(b:g∈N)(p:fp j g)(aj:Sg.Nodup)(cJ:∀f∈Sg,f∈N):a4 j N (upd j g SG) Sg:=by
 let⟨@m,c,bL,d⟩:=p;refine⟨λf I SQ a=>?_,λf a=>.inl<|cJ f a,aj,d8.of (λf z SQ=>?_)<|λf o I SQ=>?_,λf I SQ=>?_⟩
 ·rw[b9 (λC=>a (by rw[C];exact b))];exact SQ
 ·rw[b9]
  ·exact SQ
  ·rintro rfl;rw[c]at SQ;exact bL z (Option.some.inj SQ)
 ·rw[b9]
  ·exact SQ
  ·rintro rfl;rw[c]at SQ;exact d o I (Option.some.inj SQ)
 ·by_cases a:f=g
  ·subst a;exact⟨SG,dV⟩
  ·exact⟨I,(b9 a).trans SQ⟩
theorem cq.m9(p:fp j g):pB j (upd j g SG):=(a4.chg (N:=[g]) (Sg:=[]) (.head _) p iy<|λf a=>nomatch a).tup.tup
def ui(b:aJ)(id:String)(eG:ai->List ai->Option (ai×ai)):Prop:=(
 Ep b id λf T j B=>∃p E u a R1 Se,b4 j p f R1/\cN j E T Se/\(R1++Se).Nodup/\eG p E=Z (u,a)/\∀s S c bB,b4 S u s c->b4 S a f bB->a4 j (R1++Se) S (c++bB)->B s S)
@[simp] def iD:ai->Bool
 |.lst _=>aa
 |.hl _=>aa
 |_=>ay
@[simp] def gI(ty:ai->Bool)(a:Nat)(eG:ai->List ai->Option (ai×ai))(L:aA (List bz)):aA ai:=λk=>match k[a]? with
 |some (Z b)=>if ty b=aa then (L k).bind λo=>(d2 o.1 o.2).bind λq=>match q.2[a]? with
   |some (Z p)=>(eG p q.1).map λu=>(u.1,q.2.set a<|Z u.2)
   |_=>V
  else V
 |_=>V
def H5{eG:ai->List ai->Option (ai×ai)}{w:aZ}{B:cx}(D:∀j p f R1,b4 j p f R1->ty p=aa->o_ Q R8 f j)(d:lH (gI ty a eG L) w j B):∃f,w[a]?=Z (Z f)/\o_ Q R8 f j/\g6 L w j λT Sf=>∃p E u e R1 Se,b4 Sf p f R1/\cN Sf E T Se/\(R1++Se).Nodup/\eG p E=Z (u,e)/\∀s S i bB,b4 S u s i->b4 S e f bB->a4 Sf (R1++Se) S (i++bB)->B s S:=by
 let⟨k,N,u,@Sl,Y,aj,b,q⟩:=d;unfold gI at b;split at b
 ·rename_i F G;split at b
  ·rename_i bL;let⟨f,a2,@bd,l,hN,W,W⟩:=Y.out G;refine⟨f,l,D j F f _ hN bL,?_⟩;let⟨@⟨M,R_⟩,t,A⟩:=bu.mp b;let⟨@⟨E,Sv⟩,H,h⟩:=bu.mp A;refine⟨k,N,M,R_,Y,aj,t,λT R5 Sg i I J P=>?_⟩;let⟨Sp,@Se,R,Su,Sr⟩:=l5 I J H;dsimp only at h;split at h
   ·rename_i p U;let⟨@⟨SW,e⟩,al,am⟩:=cB.mp h;cases am;let⟨be,R1,@o,r,cw,v,an⟩:=R.out U;rw[l]at r;cases r;have x:a4 j N R5 ((R1++Se)++o):=P.iZ (Sr.symm.trans ((eo Se an.symm).trans (by
     rw[bg];exact cW)))
    have y:=c1.mp x.aj;refine⟨p,E,_,e,R1,Se,cw,Su,y.1,al,λs S O SM gj g4 n=>?_⟩;have ap:bc S (Sv.set a<|Z .ed) w o:=v.mono n.tup λg as m c=>n.keep g m c λd=>y.2.2 g d g as rfl;let⟨z,@R2,C,a1⟩:=ap.back g4 l;rw[o3]at C;refine q s S z O C gj ((x.trans n v.chg).less (ae:=R2) ?_);rw[bg];refine (dp z cW).trans ?_;rw[<-bg];refine (eo O a1).trans ?_;rw[bg];refine cW.trans ?_;rw[bg];refine cW.trans ?_;rw[bg,bg];refine (dp O ?_);exact cW
   ·cases h
  ·cases b
 ·cases b
section
variable{b:aJ}
def mw:∀(j:ax) (p:ai) (f:ao) (R1:List ag),b4 j p f R1->iD p=aa->o_ Q "list" f j:=by
 intro j p f R1 d c;cases p with
 |lst E=>let⟨g,@z,rfl,t,W⟩:=d;exact .inl ⟨rfl,z,dE.of t⟩
 |hl E=>let⟨g,z,@R2,rfl,t,W⟩:=d;exact .inl ⟨rfl,z,dE.of t⟩
 |_=>cases c
def mV{name:au}{id:String}{eG:ai->List ai->Option (ai×ai)}{c:bj}{U:List bj}{Tn i:Pos}(e:∀j p f R1,b4 j p f R1->ty p=aa->o_ b.K R8 f j)(bG:PlainAttrs R8)(Ta:Slot R8 name id)(bL:typeOf (.builtin id)=pure (.type "method_descriptor"))(g:ui b id eG)(h:bH b m (hF a))(k:fw b (c::U) L)(l:kV m name b.env (bK m b.env)=bK m b.env:=by rfl)(n:((ez i<|bC (c::U) b.env).all (λf=>!f.1)&&(pT i<|q_ [] b.env).all (λf=>f.1.isSome)
   && decide ((c::U).length+([]:List qd).length+(if ([]:List qd).isEmpty then 0 else 1)<30))=aa:=by rfl)(o:(Tn.endLine==i.line)=aa:=by rfl)(R6:bC (c::U) b.env=(ay,bK c b.env)::bC U b.env:=by rfl)(q:(ez i<|bC U b.env).any (·.1)=ay:=by rfl):
  cF b (.Call (.Attribute m name Tn) (c::U) [] i) (gI ty a eG L):=
 eB (Ml bG Ta bL g h k l n o R6 q) λw j B d=>by
  let⟨@f,r,t,A⟩:=H5 e d;exact⟨f,r,t,A⟩
@[simp] def hI:ai->List ai->Option (ai×ai):=λp E=>match p,E with
 |.lst z,[.im x]=>if z.length<100000 then Z (.im .aX,.lst<|z++[x]) else V
 |_,_=>V
def vd{v:Nat}(d:v<100000):v<sizeLine:=ef d ∅
def tH:ui b "list.append" hI:=by
 intro G h w j f T s Sk B l a d e;let⟨p,E,u,r,R1,@Se,i,k,aj,c,q⟩:=e;unfold hI at c;split at c
 ·split at c
  ·rename_i m;cases c;let⟨g,@Sh,rfl,t,A,rfl⟩:=i;let⟨D,y,v,@x,rfl,@⟨n,rfl⟩,@⟨rfl,rfl⟩,rfl⟩:=k;have p:fp j g:=⟨_,t,(λ_ c=>by cases c),(λ_ W c=>by cases c)⟩;refine QC G h w j _ _ s Sk B l a d ⟨g,Sh,D,rfl,rfl,t,vd (by rw[<-A.length];exact m),q .aX _ [] [g] ⟨rfl,rfl⟩ ?_ (a4.chg (.head _) p (eY _ _) λf o=>by simpa using o)⟩;exact⟨g,_,rfl,dV,(A.snoc n).mono<|cq.m9 p,rfl⟩
  ·cases c
 ·cases c
@[simp] def oq:ai->List ai->Option (ai×ai):=λp E=>match p,E with
 |.lst z,[.im (.int a)]=>if 0<=a/\a<z.length then (z[a.toNat]?).map λx=>(.im x,.lst<|z.eraseIdx a.toNat) else V
 |_,_=>V
theorem bx.erase:∀{E:List X}{z:List ao} (v:Nat),bx j E z->bx j (E.eraseIdx v) (z.eraseIdx v)
 |[],z,v,d=>by cases (show z=[] from d);exact rfl
 |x::E,z,0,d=>by let⟨s,@u,rfl,t,A⟩:=d;exact A
 |x::E,z,v+1,d=>by let⟨s,@u,rfl,t,A⟩:=d;exact⟨s,_,rfl,t,A.erase v⟩
def Qa:ui b "list.pop" oq:=by
 intro G h w j f T s Sk B l d e i;let⟨p,E,u,F,R1,@Se,k,m,aj,c,q⟩:=i;unfold oq at c;split at c
 ·rename_i a;split at c
  ·rename_i RT;let⟨@x,n,o⟩:=cB.mp c;cases o;let⟨g,@Sh,rfl,t,A,rfl⟩:=k;let⟨D,y,H,@I,rfl,@⟨r,rfl⟩,@⟨rfl,rfl⟩,rfl⟩:=m;cases (show D=.int a from r);let⟨@D,v,z⟩:=A.get n;have p:fp j g:=⟨_,t,(λ_ c=>by cases c),(λ_ W c=>by cases c)⟩;have J:Sh.length<=sizeLine:=(l.a0 g _ t).1;have L:=pe;refine N7 G h w j _ _ s Sk B l d e ⟨g,Sh,a,a.toNat,D,rfl,rfl,t,⋯,by have:=A.length;lia,tv RT.1 (by rw[<-A.length];exact RT.2),v,q D _ [] [g] ⟨z.mono<|cq.m9 p,rfl⟩ ?_ (a4.chg (.head _) p (eY _ _) λf C=>by simpa using C)⟩;exact⟨g,_,rfl,dV,(A.erase _).mono<|cq.m9 p,rfl⟩
  ·cases c
 ·cases c
@[simp] def o4:ai->List ai->Option (ai×ai):=λp E=>match p,E with
 |.lst z,[.lst Sh]=>if z.length+Sh.length<=100000 then Z (.im .aX,.lst<|z++Sh) else V
 |_,_=>V
def CA:ui b "list.extend" o4:=by
 intro G h w j f T s Sk B l i k m;let⟨p,E,u,x,R1,@Se,n,o,aj,c,q⟩:=m;unfold o4 at c;split at c
 ·split at c
  ·rename_i r;cases c;let⟨g,@Sh,rfl,t,A,rfl⟩:=n;let⟨D,y,z,@C,rfl,⟨e,@SR,rfl,v,a,rfl⟩,@⟨rfl,rfl⟩,rfl⟩:=o;have p:fp j g:=⟨_,t,(λ_ c=>by cases c),(λ_ W c=>by cases c)⟩;refine Rl G h w j _ _ s Sk B l i k ⟨g,e,Sh,SR,rfl,rfl,t,v,m1 (by rw[<-A.length,<-a.length];exact r),q .aX _ [] [g] ⟨rfl,rfl⟩ ?_ (a4.chg (.head _) p (eY _ _) λf d=>by
    rw[iC]at d;exact ea _ d)⟩
   exact⟨g,_,rfl,dV,(A.app a).mono<|cq.m9 p,rfl⟩
  ·cases c
 ·cases c
def qe(b:aJ)(pt:ai->ai->ai->Option ai):Prop:=(
 vu b λm a s j B=>∃p n x c R1 Se,b4 j p m R1/\b4 j n a []/\b4 j x s Se/\(R1++Se).Nodup/\pt p n x=Z c/\∀S d,b4 S c m d->a4 j (R1++Se) S d->B S)
@[simp] def o2(p n x:ai):Option ai:=match p,n,x with
 |.lst z,.im<|.int a,.im x=>(ji z.length a).map λr=>.lst (z.set r x)
 |_,_,_=>V
theorem bx.set{j:ax}{x:X}{s:ao}(H:cq j x s):∀{E:List X}{z:List ao} (v:Nat),bx j E z->bx j (E.set v x) (z.set v s)
 |[],z,v,d=>by cases (show z=[] from d);exact rfl
 |c::E,z,0,d=>by let⟨I,@u,rfl,t,A⟩:=d;exact⟨s,u,rfl,H,A⟩
 |c::E,z,v+1,d=>by let⟨I,@u,rfl,t,A⟩:=d;exact⟨I,_,rfl,t,bx.set H v A⟩
def BE:qe b o2:=by
 intro G h w j m a s d e I B l i k o u;let⟨p,n,x,F,R1,@Se,v,dF,y,aj,c,q⟩:=u;unfold o2 at c;split at c
 ·let⟨@r,z,C⟩:=cB.mp c;cases C;let⟨g,@Sh,rfl,t,A,rfl⟩:=v;let@⟨D,rfl⟩:=y;have p:fp j g:=⟨_,t,(λ_ c=>by cases c),(λ_ W c=>by cases c)⟩;refine I9 G h w j _ _ _ d e I B l i k o ⟨g,Sh,_,r,rfl,dF.1,t,by rw[<-A.length];exact z,q _ [g] ?_ (a4.chg (.head _) p (eY _ _) λf E=>by simpa using E)⟩;exact⟨g,_,rfl,dV,(bx.set D r A).mono<|cq.m9 p,rfl⟩
 ·cases c
@[simp] def m6(a:Nat)(b:aA ai)(pt:ai->ai->ai->Option ai):eF:=λx k=>match k[a]? with
 |some (Z _)=>(b k).bind λo=>if o.1.eJ=aa then match o.2[a]? with
   |some (Z p)=>(pt p o.1 x).map λc=>o.2.set a (Z c)
   |_=>V
  else V
 |_=>V
def q0{Sy:List Nat}{n:bj}{v:aA ai}{pt:ai->ai->ai->Option ai}{Sd:Pos}(H:bH b m (hF a))(I:cF b n v)(J:qe b pt)(e:∀s,jC (.Subscript m n Sd) b.env s=(do
   let h <-holding [s] (bK m b.env)
   let o <-holding [s,h] (bK n b.env)
   standAt Sd
   holding [s,h,o] (ri h o s)
   release [s,h,o] []):=by intro W;rfl):gM b Sy (.Subscript m n Sd) (m6 a v pt):=by
 refine rY (Ea H I J e) λs w j B L=>?_;let⟨k,N,x,R1,@Sl,Y,Su,aj,i,q⟩:=L;unfold m6 at i;split at i
 ·rename_i be M;let⟨f,bi,@bm,r,hN,W,W⟩:=Y.out M;let⟨@⟨b_,R_⟩,t,A⟩:=bu.mp i;split at A
  ·rename_i O;refine⟨f,r,k,N,b_,R_,Y,(c1.mp aj).1,t,λbn R5 Sg bs P dF l=>?_⟩;obtain rfl:=dF.eJ O;rw[bR]at l;have Q:=c1.mp aj;dsimp only at A;split at A
   ·rename_i p R;let⟨@T,U,al⟩:=cB.mp A;cases al;let⟨bv,y,@z,C,cw,D,am⟩:=P.out R;rw[r]at C;cases C;have an:b4 R5 x s R1:=Su.mono l.tup λg e m c=>l.keep g m c λd=>Q.2.2 g d g e rfl;have E:a4 j (N++R1) R5 ((y++R1)++z):=by
     have ap:a4 j (N++R1) j (N++R1):=a4.perm aj (List.Perm.refl _);have:=a4.trans (Sg:=N) (R1:=R1) ap l Su.chg;refine this.iZ ((eo R1 am.symm).trans ?_);rw[bg];exact cW
    have F:=c1.mp E.aj;refine⟨p,b_,x,T,y,R1,cw,dF,an,F.1,U,λS ca as u=>?_⟩;have a1:bc S (R_.set a<|Z .ed) w z:=D.mono u.tup λg e m c=>u.keep g m c λd=>F.2.2 g d g e rfl;let⟨a2,@R2,G,bd⟩:=a1.back as r;rw[o3]at G;exact q w S a2 cS.refl G ((E.trans u D.chg).less<|bd.trans cW)
   ·cases A
  ·cases A
 ·cases i
end
end L2
namespace L2
open Spec PyProof.Rows PySem.W
variable{P:List Int}{o:Array Nat}{Sj:Type}
def Ii(J:List Sj)(x:Sj):(range J.length).map (λa=>J.getD a x)=J:=by
 apply w2
 ·simp
 ·intro a t A;simp[List.getD,A]
def rT{J:List Sj}{x:Sj}(d:cQ J.length o):(o.toList.map λa=>J.getD a x).Perm J:=by
 have:=t8 (λa=>J.getD a x) d;rw[Ii]at this;exact this
theorem rM{Sj SX:Type}{N:Sj->SX->Prop}:∀{b:List Sj}{c:List SX},b.length=c.length->(∀(a:Nat) g e,b[a]?=Z g->c[a]?=Z e->N g e)->dC N b c
 |[],[],_,_=>.nil
 |g::J,e::i,d,F=>.cons (F 0 g e rfl rfl) (rM ⇑d λa f D t A=>F (a+1) f D ⇑t ⇑A)
 |[],_::_,d,_=>by simp at d
 |_::_,[],d,_=>by simp at d
section
variable{R3:bp}{H:a7}{O:bf}{RW:ab->ah->Prop}{h:ah}{T:List ab}
def yC{SM:ag}{Tu:Nat}{R4:PySem.Fin->ah->Prop}(M:Nat->Int)(Sn:gd)(f:h.heap.get? SM=Z (e8 "list" T.toArray Tu))(C:2<=T.length->∀b:aV,(∀e m,e≠SM->h.heap.get? e=Z m->b.get? e=Z m)->∀B:gd->ah->Prop,B Sn {h with heap:=b}->wpAny (aM R3 H) O (xB T.toArray) B RW {h with heap:=b})(D:∀b:aV,(∀e m,e≠SM->h.heap.get? e=Z m->b.get? e=Z m)->fv T.length M (eK R3 H O Sn<|T.toArray.zip T.toArray) {h with heap:=b})(E:T.length<1001\/∀r,1<=r->r<T.length->M (r-1)<=M r)(F:T.length<=1000)(d:∀(o:Array Nat) (RU:aV),cQ T.length o->kA M o T.length->(∀e m,e≠SM->h.heap.get? e=Z m->RU.get? e=Z m)->(∃c,RU.get? SM=Z (e8 "list" (o.toList.map λa=>T.getD a ab.none).toArray c))->
   R4 (.done<|.ret .none) {h with heap:=RU}):wpAny (aM R3 H) O (bq.«list.sort» ⟨[.ref SM],[]⟩) R4 RW h:=by
 have v:T.length<=sizeLine:=dx F ∅;rw[list_sort_plain];have S:SM<h.heap.objs.size:=ck f;refine aw (listItems_at f rfl (aw (Be f rfl ?_ (hsz:=by rw[cO];exact v) (hsz2:=by show 0<=_;exact gP _))));have l:=AI f (λ_=>#[]);generalize U:(if (#[]:Array ab).size==T.toArray.size then Tu else Tu+1)=y at l;refine aw (seqEpoch_at l rfl (aw (wpAny_newTuple (aw<|uw<|fU ?_) ⇑v)));have i:∀e m,e≠SM->h.heap.get? e=Z m->(((h.heap.update SM<|a3.mapSeq λ_=>#[]).push<|e8 "tuple" T.toArray.toList.toArray 0).push<|e8 "list" ([]:List ab).toArray 0).get? e=Z m:=λe m j c=>
  cg _ (cg _<|(hP _ _<|eH j).trans c);have w:(((h.heap.update SM<|a3.mapSeq λ_=>#[]).push<|e8 "tuple" T.toArray.toList.toArray 0).push<|e8 "list" ([]:List ab).toArray 0).get? SM=Z (e8 "list" #[] y):=
  cg _ (cg _ l);show wpAny (aM R3 H) O _ R4 RW {h with heap:=((h.heap.update SM<|a3.mapSeq λ_=>#[]).push<|e8 "tuple" T.toArray.toList.toArray 0).push (e8 "list" ([]:List ab).toArray 0)};generalize ((h.heap.update SM<|a3.mapSeq λ_=>#[]).push<|e8 "tuple" T.toArray.toList.toArray 0).push (e8 "list" ([]:List ab).toArray 0)=b at i w ⊢;have z:∀(Y:bk) (o:Array Nat),cQ T.length o->kA M o T.length->arrOf Y=o.map (a9<|T.toArray.zip T.toArray)->hs Y=V->
   wpAny (aM R3 H) O (do
    let L:=(<-seqEpoch SM) != y
    bq.List.listUpdate (.ref SM) λ_=>(arrOf Y).map (·.2)
    if let Z c:=hs Y then rule "list.sort.comparison-raised";throw c
    if L then rule "list.sort.modified";raiseError "ValueError" "list modified during sort"
    ret .none) R4 RW {h with heap:=b}:=λY o k n q s=>by
  have out:=kat_snds (ks:=T) (vs:=T) rfl q;rw[out,s];refine aw (seqEpoch_at (s:={h with heap:=b}) w rfl (aw (Be (s:={h with heap:=b}) w rfl ?_ (hsz:=gP _) (hsz2:=by
   show (List.toArray<|o.toList.map λa=>T.getD a ab.none).size<=_;rw[cO,bt,c6,k.size];lia))))
  simp only[bne_self_eq_false,gE,fl];refine aR (d o _ k n (λe m j c=>(hP _ _<|eH j).trans<|i e m j c) ⟨_,AI w λ_=>_⟩)
 dsimp only;by_cases A:T.toArray.size<2
 ·rw[aD A,aD A];refine aw (aR ?_);rw[StateT.run_pure];apply aw;apply aR;have t:T.length<2:=by simpa using A
  refine z (bk.mk' general' (T.toArray.zip T.toArray) #[] 7 V) (range T.length).toArray (List.Perm.refl _) (λa r al am=>?_) ?_ rfl
  ·have:a=r:=⋯
   subst this;exact lN _
  ·have:=kas_range (T.toArray.zip T.toArray);rw[show (T.toArray.zip T.toArray).size=T.length by simp]at this;exact this.symm
 ·rw[aG A,aG A];have t:2<=T.length:=by simpa using A
  refine aw (C t b i _ ?_)
  ·have N:=D b i;have hR:=kas_range (T.toArray.zip T.toArray);rw[show (T.toArray.zip T.toArray).size=T.length by simp]at hR;have run:=G1 (RW:=RW) (B:=λ_ Y RV=>RV={h with heap:=b}/\∃o,cQ T.length o/\kA M o T.length/\arrOf Y=o.map (a9<|T.toArray.zip T.toArray)/\hs Y=V) N
    t E λP an g e p x=>⟨rfl,P,g,e,p,x⟩;unfold tM at run;rw[hR]at run;refine aw (gT run (λu RV Q=>?_) λ_ W c=>c);let⟨I,Y⟩:=u;let@⟨rfl,⟨@o,k,n,q,s⟩⟩:=Q;exact z Y o k n q s
end
section
variable{b:aJ}{G:List (ag×a3)}{w:L2.aZ}{j:ax}{h:ah}
def C8(bi:b.calm=aa){g:ag}{Sh:List ao}{Sa:List ab}{v:Nat}{R8:String}{m:a3}{B:cx}(M:Nat->Int)(Sn:gd)(l:aB b G w j h)(E:bN Sh Sa)(R:R8 = "list" \/ R8 = "tuple")(c:h.heap.get? g=Z m)(aF:m.cls=.type R8)(S:m.data=.seq Sa.toArray v)(bm:Sh.length<=1000)(T:2<=Sa.length->∀(d:aV) (SD:Nat),(∀e m,h.heap.get? e=Z m->d.get? e=Z m)->∀(O:bf) (RW:ab->ah->Prop) (B:gd->ah->Prop),B Sn {h with heap:=d,toks:=SD}->wpAny (aM b.prog b.w) O (xB Sa.toArray) B RW {h with heap:=d,toks:=SD})(U:∀(d:aV) (SD:Nat),(∀e m,h.heap.get? e=Z m->d.get? e=Z m)->fv Sa.length M (eK b.prog b.w b.A.in1.in1 Sn<|Sa.toArray.zip Sa.toArray) {h with heap:=d,toks:=SD})(al:Sa.length<1001\/∀r,1<=r->r<Sa.length->M (r-1)<=M r)(q:∀(o:Array Nat) J,cQ Sa.length o->kA M o Sa.length->j J=V->B (.ref J) (upd j J<|.lst<|o.toList.map λa=>Sh.getD a .aX)):
  wpAny (aM b.prog b.w) b.A (call (.builtin "sorted") [.ref g]) (e_ b G w B) b.cH h:=by
 have bn:Sh.length=Sa.length:=E.length;have F:Sa.length<=sizeLine:=dx ⋯ (show 1000<=sizeLine by decide);refine yQ w_ vf yA (yV _) ?C
 case C=>
  unfold bq.«sorted»;refine aw (m:=y2 "sorted" 1 1 _) (aR (aw (wpAny_collect_seq g R c aF S (λRU u=>?_) (by rw[cO];exact F))));show wpAny _ _ (qs Sa >>= _) _ _ _;refine aw (uw ?_ F);have L:(RU.push<|e8 "list" Sa.toArray 0).get? RU.objs.size=Z (e8 "list" Sa.toArray 0):=dh _ rfl;have bS:∀e m,h.heap.get? e=Z m->(RU.push<|e8 "list" Sa.toArray 0).get? e=Z m:=λe m c=>cg _ (u e m c);have N:aB b G w j {h with heap:=RU}:=l.kept (Sw:=h.toks) u;have P:∀e m,h.heap.get? e=Z m->e≠RU.objs.size:=λe m c=>cR (ck<|u e m c);refine aw (fU<|i0 yw ⟨_,L,rfl⟩ xo ?D<|yj _)
  case D=>
   refine yC (h:={h with heap:=RU.push (e8 "list" Sa.toArray 0)}) M Sn L (λA d x B am=>T A d h.toks (λe m k=>x e m (P e m k)<|bS e m k) _ _ B am) (λd x=>U d h.toks λe m k=>x e m (P e m k)<|bS e m k) al ⋯ λo A y an ap ⟨as,a1⟩=>⟨_,rfl,aR ⟨_,rfl,?_⟩⟩;have a2:j RU.objs.size=V:=N.a0.fresh (bl _);have bd:∀e m,RU.get? e=Z m->e≠RU.objs.size:=λe m c=>cR (ck c);refine⟨.ref RU.objs.size,upd j RU.objs.size<|.lst<|o.toList.map λa=>Sh.getD a .aX,?_,rfl,q o _ y an a2⟩;refine N.laid (Sw:=h.toks) (λe I c=>ap e I (bd e I c)<|cg _ c) (bl _) ⟨?_,_,as,?_,a1⟩
   ·rw[bt,c6,y.size];lia
   ·refine rM ↥0 λa s I t A=>?_;rw[dT]at t A;cases z:o.toList[a]? with
    |none=>rw[z]at t;cases t
    |some n=>
     rw[z]at t A;cases t;cases A;have Q:n<Sa.length:=en.mp (y.mem_iff.mp<|e0 z);let⟨@I,p,be⟩:=E.get (a:=n) (f:=Sh[n]'⋯) (by simp[show n<Sh.length by lia]);rw[dr Q]at p;have p:=Option.some.inj p;simp only[List.getD,dr Q,dr (show n<Sh.length by lia),qz];rw[p];exact be
end
def n4(P:List Int)(a:Nat):Int:=(P.getD a 0)
def HT(aj:P.Nodup):∀a r,a<P.length->r<P.length->n4 P a=n4 P r->a=r:=λa r RT b c=>by
 unfold n4 at c;rw[ct,ct,dr RT,dr b]at c;have e:P[a]=P[r]:=c;rcases qf a r with d|d|d
 ·exact absurd e ((nj.mp aj) a r RT b d)
 ·exact d
 ·exact absurd e.symm ((nj.mp aj) r a b RT d)
def OW(b:cQ P.length o)(f:kA (n4 P) o P.length)(aj:P.Nodup):(o.toList.map λa=>P.getD a 0).Pairwise (· < ·):=by
 rw[nj];intro a r RT c g;have R6:=b.size;have i:a<P.length:=by simpa [R6] using RT
 have d:r<P.length:=by simpa [R6] using c
 have ne:=b.ne (HT aj) g d;have le:=f a r ⋯ d;have L:∀n (e:n<(o.toList.map λa=>P.getD a 0).length),(o.toList.map λa=>P.getD a 0)[n]=a6 (n4 P) o n:=λn e=>by
  have h:n<o.size:=by simpa using e
  rw[Cz,zZ];show _=P.getD (o.getD n 0) 0;simp[Array.getD,h]
 rw[L a RT,L r c];lia
section
variable{b:aJ}
theorem t5{j:ax}:∀{P:List Int}{Sa:List ab},bN (P.map ao.int) Sa->∀(a:Nat),a<P.length->∃y,Sa[a]?=Z (.int (P.getD a 0) y)
 |v::u,_,.cons g e,0,d=>by let⟨@y,rfl⟩:=g;exact⟨y,rfl⟩
 |v::u,_,.cons g e,a+1,d=>by
  let⟨@y,c⟩:=t5 (j:=j) e a ⇑d;exact⟨y,by simpa using c⟩
def JU(p:b.calm=aa):e7 b (.builtin "sorted") (λz j B=>∃(g:ag) (P:List Int),z=[.ref g]/\j g=Z (.lst<|P.map ao.int)/\P.Nodup/\P.length<=1000/\
  ∀J (i:List Int),j J=V->i.Perm P->i.Pairwise (· < ·)->B (.ref J) (upd j J<|.lst<|i.map ao.int)):=by
 intro G h w j z Sk B l u d;let⟨g,@P,rfl,x,aj,D,q⟩:=d;let⟨@I,rfl,E⟩:=i7 u;cases E;let@⟨C,⟨Sa,@v,e,c⟩⟩:=l.a0 g _ x;have k:Sa.length=P.length:=by rw[<-e.length,bt]
 refine C8 p (n4 P) oneType' l e (.inl rfl) c rfl rfl (by rw[bt];exact D) (λA F SD n O RW B H=>?_) (λF SD n=>?_) (.inl ⋯) λo J f m aT=>?_
 ·refine kas_kind (T:=ab.type "int") A (λs L=>?_) ∅ ∅ H;let⟨@a,RT⟩:=sh L;let⟨@y,bL⟩:=t5 (j:=j) e a (by rw[<-k];exact (e4.mp RT).1);rw[RT]at bL;cases bL;exact v8 rfl
 ·intro a r ae RT R q;let⟨@y,t⟩:=t5 (j:=j) e a ⋯;let⟨@I,A⟩:=t5 (j:=j) e r ⋯;unfold eK;rw[r5 rfl,r5 rfl,ct,ct,t,A];show wpAny _ _ (keyLt' oneType' (.int _ y)<|.int _ I) _ _ _;rw[keyLt'_oneType];exact oneLt_int q
 ·rw[k]at f m;have M:(o.toList.map λa=>(P.map ao.int).getD a .aX)=(o.toList.map λa=>P.getD a 0).map ao.int:=by
   rw[g8];refine qi λn N=>?_;have Q:n<P.length:=en.mp (f.mem_iff.mp N);show (P.map ao.int).getD n .aX=ao.int (P.getD n 0);simp[List.getD,Q]
  rw[M];exact q J _ aT (rT f) (OW f m aj)
end
end L2
namespace L2
open Spec PyProof.Rows
section
variable{b:aJ}
def EH:List X->List X->List X
 |f::z,D::Sh=>.tup [f,D]::EH z Sh
 |_,_=>[]
@[simp] def Ro(L:aA (List bz)):hq:=λk=>(L k).bind λo=>(ht o.2 o.1).bind λE=>match E with
 |[.im (.tup f),.im<|.tup D]=>Z ((EH f D,V),o.2)
 |_=>V
@[simp] def RO:jB:=λE=>match E with
 |[.im (.int a),.im<|.int r,.im<|.int n]=>Z (.im<|.int<|min (min a r) n)
 |_=>V
def j1(lt:X->X->Bool)(f:X):List X->List X
 |[]=>[f]
 |D::u=>if lt f D=aa then f::D::u else D::j1 lt f u
def fR(lt:X->X->Bool):List X->List X
 |[]=>[]
 |f::u=>j1 lt f (fR lt u)
def sN:X->X->Bool
 |.int a,.int r=>decide (a<r)
 |_,_=>ay
def qN:List X->Option (List Int)
 |[]=>Z []
 |.int a::u=>(qN u).map λh=>a::h
 |_::_=>V
@[simp] def v9:jB:=λE=>match E with
 |[.lst f]=>(qN f).bind λP=>if P.Nodup/\P.length<=1000 then Z (.lst<|fR sN f) else V
 |_=>V
def mr(f:Int):List Int->List Int
 |[]=>[f]
 |D::u=>if f<D then f::D::u else D::mr f u
def oQ:List Int->List Int
 |[]=>[]
 |f::u=>mr f (oQ u)
theorem CT(f:Int):∀J:List Int,j1 sN (.int f) (J.map .int)=(mr f J).map .int
 |[]=>rfl
 |D::u=>by
  rw[bY,j1,mr,sN];by_cases d:f<D
  ·rw[aD ⇑d,aD d];rfl
  ·rw[aG ⇑d,aG d,CT f u];rfl
theorem Bb:∀J:List Int,fR sN (J.map .int)=(oQ J).map .int
 |[]=>rfl
 |f::u=>by rw[bY,fR,Bb u,CT];rfl
theorem wq(f:Int):∀J:List Int,(mr f J).Perm (f::J)
 |[]=>List.Perm.refl _
 |D::u=>by
  rw[mr];split
  ·exact List.Perm.refl _
  ·exact ((wq f u).cons D).trans (List.Perm.swap f D u)
theorem wi:∀J:List Int,(oQ J).Perm J
 |[]=>List.Perm.refl _
 |f::u=>(wq f _).trans ((wi u).cons f)
theorem F9(f:Int):∀J:List Int,J.Pairwise (·<=·)->(mr f J).Pairwise (·<=·)
 |[],_=>eY _ _
 |D::u,d=>by
  let⟨t,A⟩:=h7.mp d;rw[mr];split
  ·rename_i b;refine h7.mpr ⟨λC a=>?_,d⟩;rcases cc.mp a with rfl|a
   ·lia
   ·have:=t C a;lia
  ·rename_i b;refine h7.mpr ⟨λC a=>?_,F9 f u A⟩;rcases cc.mp ((wq f u).mem_iff.mp a) with rfl|a
   ·lia
   ·exact t C a
theorem DN:∀J:List Int,(oQ J).Pairwise (·<=·)
 |[]=>List.Pairwise.nil
 |f::u=>F9 f _ (DN u)
def KW{J:List Int}(d:J.Nodup):(oQ J).Pairwise (· < ·):=by
 have t:=DN J;have A:(oQ J).Nodup:=(wi J).nodup_iff.mpr d;exact Lh (λg e f D=>⋯) t A
theorem D_:∀{J i:List Int},J.Perm i->J.Pairwise (· < ·)->i.Pairwise (· < ·)->J=i
 |[],i,d,_,_=>d.nil_eq
 |g::J,[],d,_,_=>absurd d.length_eq ↥0
 |g::J,e::i,d,f,h=>by
  have a:=h7.mp f;have b:=h7.mp h;have c:g=e:=by
   rcases cc.mp (d.mem_iff.mp<|.head _) with C|C
   ·exact C
   ·rcases cc.mp (d.mem_iff.mpr<|.head _) with D|D
    ·exact D.symm
    ·have t:=a.1 e D;have A:=b.1 g C;omega
  subst c;rw[D_ d.cons_inv a.2 b.2]
theorem zv:∀{f:List X}{P:List Int},qN f=Z P->f=P.map .int
 |[],P,d=>by cases d;rfl
 |.int a::u,P,d=>by
  rw[qN]at d;let⟨h,t,rfl⟩:=cB.mp d;rw[zv t];rfl
 |.aX::_,_,d=>by cases d
 |.aN _::_,_,d=>by cases d
 |.str _::_,_,d=>by cases d
 |.tup _::_,_,d=>by cases d
 |.fn _::_,_,d=>by cases d
 |.aT _::_,_,d=>by cases d
 |.fd _::_,_,d=>by cases d
theorem Eo{j:ax}:∀{P:List Int}{T:List ao},bx j (P.map .int) T->T=P.map ao.int
 |[],T,d=>d
 |v::u,T,d=>by
  let⟨s,y,rfl,t,A⟩:=d;cases (show s=.int v from t);rw[Eo A];rfl
theorem Bn{j:ax}:∀P:List Int,bx j (P.map .int) (P.map ao.int)
 |[]=>rfl
 |v::u=>⟨.int v,_,rfl,rfl,Bn u⟩
def HO(e:b.calm=aa)(k:b.A.units+20<bD):hD b (.builtin "sorted") v9:=by
 refine (JU e).imp λz j B ⟨E,x,g,c,q⟩=>?_;unfold v9 at c;split at c
 ·rename_i f;let⟨P,h,a⟩:=bu.mp c;split at a
  ·rename_i d;cases a;let⟨s,rfl,W,o,z,rfl,t,A,W⟩:=gy g;cases zv h;cases Eo A;refine⟨o,P,rfl,t,d.1,d.2,λJ m aT Sr i=>?_⟩;rw[Bb]at q;rw[D_ (Sr.trans (wi P).symm) i (KW d.1)];exact b6.l q aT (Bn _)
  ·cases a
 ·cases c
def yx(a:b.A.units+20<bD):qe b o2:=BE
def pS:X->Option dX
 |.int a=>Z (.inl a)
 |.str f=>Z (.inr f)
 |_=>V
@[simp] theorem RM(a:Int):pS (.int a)=Z (.inl a):=rfl
@[simp] theorem Rr(f:au):pS (.str f)=Z (.inr f):=rfl
def E4:dX->X
 |.inl a=>.int a
 |.inr f=>.str f
@[simp] theorem RA(a:Int):E4 (.inl a)=.int a:=rfl
@[simp] theorem Rv(f:au):E4 (.inr f)=.str f:=rfl
def KP{j:ax}{x:X}{s:ao}{n:dX}(d:cq j x s)(c:pS x=Z n):s=bW n:=by
 cases x with
 |int a=>cases c;exact d
 |str f=>cases c;exact d
 |_=>cases c
def iL{Sn:Type}[DecidableEq Sn](R9:List (Sn×X))(n:Sn)(x:X):List (Sn×X):=(
 if (R9.any λa=>decide (a.1=n))=aa then R9.map (λa=>if a.1=n then (a.1,x) else a) else R9++[(n,x)])
variable{Sn:Type}
def d_.any[DecidableEq Sn]{j:ax}{n:Sn}{J:List (Sn×X)}{i:List (Sn×ao)}(d:d_ j J i):(J.any λa=>decide (a.1=n))=(i.any λa=>decide (a.1=n)):=by
 unfold d_ at d;induction d with
 |nil=>rfl
 |cons u _ b=>rw[m5,m5,b,u.1]
def d_.upd[DecidableEq Sn]{j:ax}{n:Sn}{x:X}{s:ao}(H:cq j x s){J:List (Sn×X)}{i:List (Sn×ao)}(d:d_ j J i):d_ j (J.map λa=>if a.1=n then (a.1,x) else a) (i.map λa=>if a.1=n then (a.1,s) else a):=by
 unfold d_ at d;induction d with
 |nil=>exact .nil
 |@cons o q _ _ u _ e=>
  rw[bY,bY];refine .cons ?_ e;by_cases c:o.1=n
  ·have b:q.1=n:=u.1.symm.trans c;rw[aD c,aD b];exact⟨u.1,H⟩
  ·have b:¬ q.1=n:=λC=>c (u.1.trans C);rw[aG c,aG b];exact u
def Ms{Sj SX:Type}{N:Sj->SX->Prop}{J:List Sj}{i:List SX}{g:Sj}{e:SX}(d:dC N J i)(f:N g e):dC N (J++[g]) (i++[e]):=by
 induction d with
 |nil=>exact .cons f .nil
 |cons u _ a=>exact .cons u a
def d_.put[DecidableEq Sn]{j:ax}{n:Sn}{x:X}{s:ao}(H:cq j x s){J:List (Sn×X)}{i:List (Sn×ao)}(d:d_ j J i):d_ j (iL J n x) (gG i n s):=by
 unfold iL gG;rw[d.any];split
 ·exact d.upd H
 ·exact Ms d ⟨rfl,H⟩
@[simp] def wj:aA ai:=λk=>Z (.aO [],k)
def Ap{Sd:Pos}:cF b (.Dict [] [] Sd) wj:=by
 refine eB ON λw j B ⟨k,N,u,Sl,Y,aj,d,q⟩ o a=>?_;cases d;have h:cI j (L2.upd j o<|.aO []):=(cI.refl j).upd a;have e:a4 j N j (N++[]):=by rw[bR];exact a4.perm aj (List.Perm.refl _)
 exact q _ _ N [o] (Y.mono h.tupS λg W m c=>h g m c) ⟨o,[],rfl,dV,.nil,rfl⟩ (e.new h (eY _ _) (λg f=>by rw[cm.mp f];exact a) Y.chg)
@[simp] def RL(a b:aA ai):aA ai:=λk=>(a k).bind λo=>(b o.2).bind λq=>match o.1,q.1 with
 |.im n,.im x=>(pS n).map λc=>(.dN [(c,x)],q.2)
 |_,_=>V
@[simp] def jY(p n x:ai):Option ai:=match p,n,x with
 |.lst z,.im<|.int a,.im x=>(ji z.length a).map λr=>.lst (z.set r x)
 |.dN R9,.im n,.im x=>(pS n).bind λb=>if R9.length<100000 then Z (.dN<|iL R9 b x) else V
 |.aO R9,.im<|.tup n,.im x=>if X.keys 7 n=aa/\R9.length<100000 then Z (.aO<|iL R9 n x) else V
 |_,_,_=>V
def w8(H:b.A.units+20<bD):qe b jY:=by
 intro G h w j m a s J L I B l i o r M;let⟨p,n,x,N,R1,@Se,u,dF,v,aj,c,q⟩:=M;unfold jY at c;split at c
 ·exact BE G h w j m a s J L I B l i o r ⟨_,_,_,N,R1,Se,u,dF,v,aj,c,q⟩
 ·let⟨@T,P,C⟩:=bu.mp c;split at C
  ·rename_i d;cases C;let⟨g,@Sh,rfl,t,A,rfl⟩:=u;let@⟨D,rfl⟩:=v;have p:fp j g:=⟨_,t,(λ_ c=>by cases c),(λ_ W c=>by cases c)⟩;cases i;have Q:=KP dF.1 P;subst Q;refine Aq H l (mG.k t (by rw[<-A.length];exact vd d)) o r λRV E=>⟨_,E,q _ [g] ?_ (a4.chg (.head _) p (eY _ _) λf F=>by simpa using F)⟩;exact⟨g,_,rfl,dV,(d_.put D A).mono<|cq.m9 p,rfl⟩
  ·cases C
 ·split at c
  ·rename_i d;cases c;let⟨g,@Sh,rfl,t,A,rfl⟩:=u;let@⟨D,rfl⟩:=v;have p:fp j g:=⟨_,t,(λ_ c=>by cases c),(λ_ W c=>by cases c)⟩;cases i;let⟨e,@z,rfl,R,S⟩:=dF.1;refine Aq H l (mG.t t ⟨d.1,e,z,rfl,R,S⟩ (by rw[<-A.length];exact vd d.2)) o r λRV E=>⟨_,E,q _ [g] ?_ (a4.chg (.head _) p (eY _ _) λf F=>by simpa using F)⟩;exact⟨g,_,rfl,dV,(d_.put D A).mono<|cq.m9 p,rfl⟩
  ·cases c
 ·cases c
theorem wA{Sj SX:Type}{N:Sj->SX->Prop}:∀{b:List Sj}{c:List SX},dC N b c->∀(a:Nat),a<b.length->∃g e,b[a]?=Z g/\c[a]?=Z e/\N g e
 |_,_,.nil,a,d=>by simp at d
 |_,_,.cons u y,0,d=>⟨_,_,rfl,rfl,u⟩
 |_,_,.cons u y,a+1,d=>by
  let⟨g,@e,f,D,C⟩:=wA y a ⇑d;exact⟨g,e,by simpa using f,by simpa using D,C⟩
end
section
variable{b:aJ}
def DF:bz->ai->Option (Nat×ai)
 |.bJ a,x=>Z (a,x)
 |.cU _,_=>V
@[simp] theorem RC(a:Nat)(x:ai):DF (.bJ a) x=Z (a,x):=rfl
@[simp] theorem Rq(p x:ai):DF (.cU p) x=V:=rfl
def B4:ai->ai
 |.lst f=>.im (.aT f)
 |.aO []=>.im (.fd [])
 |x=>x
@[simp] theorem Rz(f:List X):B4 (.lst f)=.im (.aT f):=rfl
@[simp] theorem Gt(x:X):B4 (.im x)=.im x:=rfl
end
end L2
namespace dj
open Spec PyProof.Rows
end dj
namespace L2
open Spec PyProof.Rows
variable{O:bf}{Tc SV S2:aA bz}{Q F:f6}{B:ab->ah->Prop}{e:Bool}{SK:ai}{I s:ab}{D:ao}{h:ah}{j:ax}{w:aZ}{G:List (ag×a3)}{f x:X}
theorem CH{d:aV}:∀(v:Nat) {f D:X}{s:ab},X.a5 v f=aa->X.a5 v D=aa->c0 d f s->c0 d D s->f=D
 |v,.aX,D,s,_,aY,h,b=>by
  cases (show s=.none from h);cases D with
  |aX=>rfl
  |aN e=>cases b
  |int r=>let⟨@I,c⟩:=b;cases c
  |str C=>let⟨@I,c⟩:=b;cases c
  |tup E=>let⟨W,W,W,@W,c,W⟩:=b;cases c
  |fn g=>cases v<;>cases aY
  |aT g=>cases v<;>cases aY
  |fd=>cases v<;>cases aY
 |v,.aN e,D,s,_,aY,h,b=>by
  cases (show s=.bool e from h);cases D with
  |aX=>cases b
  |aN p=>cases b;rfl
  |int r=>let⟨@I,c⟩:=b;cases c
  |str C=>let⟨@I,c⟩:=b;cases c
  |tup E=>let⟨W,W,W,@W,c,W⟩:=b;cases c
  |fn g=>cases v<;>cases aY
  |aT g=>cases v<;>cases aY
  |fd=>cases v<;>cases aY
 |v,.int a,D,s,_,aY,h,b=>by
  let⟨@y,rfl⟩:=h;cases D with
  |aX=>cases b
  |aN p=>cases b
  |int r=>let⟨@I,c⟩:=b;injection c with c;rw[c]
  |str C=>let⟨@I,c⟩:=b;cases c
  |tup E=>let⟨W,W,W,@W,c,W⟩:=b;cases c
  |fn g=>cases v<;>cases aY
  |aT g=>cases v<;>cases aY
  |fd=>cases v<;>cases aY
 |v,.str a,D,s,_,aY,h,b=>by
  let⟨@y,rfl⟩:=h;cases D with
  |aX=>cases b
  |aN p=>cases b
  |int r=>let⟨@I,c⟩:=b;cases c
  |str C=>let⟨@I,c⟩:=b;injection c with c;rw[c]
  |tup E=>let⟨W,W,W,@W,c,W⟩:=b;cases c
  |fn g=>cases v<;>cases aY
  |aT g=>cases v<;>cases aY
  |fd=>cases v<;>cases aY
 |v+1,.tup E,D,s,w,aY,h,b=>by
  let⟨g,m,Sm,@i,rfl,t,A,z,B⟩:=h;cases D with
  |aX=>cases b
  |aN p=>cases b
  |int r=>let⟨@I,c⟩:=b;cases c
  |str C=>let⟨@I,c⟩:=b;cases c
  |fn g=>cases aY
  |aT g=>cases aY
  |fd=>cases aY
  |tup U=>
   let⟨J,SG,L,@M,c,o,N,j,F⟩:=b;cases c;rw[t]at o;cases o;rw[z]at j;injection j with j _;subst j;have all:∀(E U:List X) (T:List ab),X.c5 v E=aa->X.c5 v U=aa->dg d E T->dg d U T->E=U:=by
    intro E;induction E with
    |nil=>
     intro U T W W g e;cases U with
     |nil=>rfl
     |cons c U=>let⟨W,@W,q,W⟩:=e;rw[show T=[] from g]at q;cases q
    |cons x E G=>
     intro U T k l g e;let⟨s,@u,rfl,H,S1⟩:=g;cases U with
     |nil=>cases (show s::u=[] from e)
     |cons c U=>
      let⟨O,@SW,q,bA,b0⟩:=e;cases q;rw[X.c5,cC]at k l;rw[CH v k.1 l.1 H bA,G U u k.2 l.2 S1 b0]
   rw[all E U _ w aY B F]
 |0,.tup _,_,_,n,_,_,_=>by cases n
 |v,.fn _,_,_,n,_,_,_=>by cases v<;>cases n
 |v,.aT _,_,_,n,_,_,_=>by cases v<;>cases n
 |v,.fd _,_,_,n,_,_,_=>by cases v<;>cases n
open Classical in
def ng(d:aV)(x:X)(s:ab):Bool:=(if C:∃f,X.a5 8 f=aa/\c0 d f s then b3 C.choose x else ay)
def qI{d:aV}(n:X.a5 8 f=aa)(a:c0 d f s):ng d x s=b3 f x:=by
 unfold ng;have C:∃f,X.a5 8 f=aa/\c0 d f s:=⟨f,n,a⟩;rw[dif_pos C,CH 8 C.choose_spec.1 n C.choose_spec.2 a]
theorem qD{d:aV}{x:X}:∀{E:List X}{T:List ab},X.c5 8 E=aa->dg d E T->T.any (ng d x)=E.any λf=>b3 f x
 |[],T,_,c=>by rw[show T=[] from c];rfl
 |f::E,T,n,c=>by
  let⟨s,@u,rfl,t,A⟩:=c;rw[X.c5,cC]at n;rw[m5,m5,qI n.1 t,qD n.2 A]
theorem qW{d:aV}:∀{E:List X}{T:List ab}{s:ab},X.c5 8 E=aa->dg d E T->s∈T->∃f,X.a5 8 f=aa/\c0 d f s
 |[],T,s,_,c,i=>by rw[show T=[] from c]at i;cases i
 |f::E,T,s,n,c,i=>by
  let⟨I,@u,rfl,t,A⟩:=c;rw[X.c5,cC]at n;rcases cc.mp i with rfl|i
  ·exact⟨f,n.1,t⟩
  ·exact qW n.2 A i
section
variable{b:aJ}
def gD(x:X):ai->Option Bool
 |.im (.tup E)=>if (X.a5 8 x&&X.c5 8 E)=aa then Z (E.any λf=>b3 f x) else V
 |.lst E=>if (X.a5 8 x&&X.c5 8 E)=aa then Z (E.any λf=>b3 f x) else V
 |.aO R9=>match x with
  |.tup n=>if X.keys 7 n=aa then Z (ey R9 n).isSome else V
  |_=>V
 |.dN R9=>match x with
  |.int a=>Z (ey R9<|.inl a).isSome
  |.str f=>Z (ey R9<|.inr f).isSome
  |_=>V
 |_=>V
@[simp] theorem Io(x:X)(E:List X):gD x (.im<|.tup E)=if (X.a5 8 x&&X.c5 8 E)=aa then Z (E.any λf=>b3 f x) else V:=rfl
@[simp] theorem Pd(x:X)(E:List X):gD x (.lst E)=if (X.a5 8 x&&X.c5 8 E)=aa then Z (E.any λf=>b3 f x) else V:=rfl
@[simp] theorem RI(n:List X)(R9:List (List X×X)):gD (.tup n) (.aO R9)=if X.keys 7 n=aa then Z (ey R9 n).isSome else V:=rfl
@[simp] def oM:f6:=λg e=>match g with
 |.im x=>(gD x e).map λu=>.im (.aN u)
 |_=>V
@[simp] def mm:f6:=λg e=>match g with
 |.im x=>(gD x e).map λu=>.im (.aN<|!u)
 |_=>V
def pl{Sn:Type}[DecidableEq Sn]{j:ax}{n:Sn}{R9:List (Sn×X)}{P:List (Sn×ao)}(d:d_ j R9 P):(hc P n).isSome=(ey R9 n).isSome:=by
 cases c:ey R9 n with
 |none=>rw[(mz d).2 c];rfl
 |some x=>let⟨@s,t,W⟩:=(mz d).1 x c;rw[t];rfl
def JW{f:ao}(L:b.A.units+20<bD)(l:aB b G w j h)(m:b2 f s)(p:b2 D I)(r:cq j x f)(u:eu j SK D)(c:gD x SK=Z e)(q:∀RV,aB b G w j RV->B (.bool e) RV):wpAny (aM b.prog b.w) b.A (ej .In s I) B b.cH h:=by
 unfold gD at c;split at c
 ·rename_i E;split at c
  ·rename_i d;cases c;rw[cC]at d;let⟨g,@z,rfl,t,A⟩:=u.i;cases p;let⟨@Sa,N,o,W⟩:=l.tuple (c7.of t);have v:=A.eO l.a0 N;refine SeqAt.in_tupleAt (ng h.heap x) (show h.heap.IsTuple g Sa.toArray from o) (λH M=>?_) ?_
   ·let⟨@C,F,J⟩:=qW d.2 v ⇑M;rw[qI F J];exact iw 8 F d.1 (by show b.A.units+1+8+1<bD;lia) J (r.eO l.a0 m)
   ·rw[sv,qD d.2 v];exact q h l
  ·cases c
 ·rename_i E;split at c
  ·rename_i d;cases c;rw[cC]at d;let⟨W,g,@z,rfl,t,A,W⟩:=u;cases p;let⟨@Sa,o,v,W⟩:=n7 l t A;refine SeqAt.in_listAt (ng h.heap x) o (λH M=>?_) ?_
   ·let⟨@C,F,J⟩:=qW d.2 v ⇑M;rw[qI F J];exact iw 8 F d.1 (by show b.A.units+1+8+1<bD;lia) J (r.eO l.a0 m)
   ·rw[sv,qD d.2 v];exact q h l
  ·cases c
 ·rename_i R9;split at c
  ·rename_i n;split at c
   ·rename_i Q;cases c;let⟨W,g,@P,rfl,t,A,W⟩:=u;cases p;let⟨e,@Sh,rfl,R,S⟩:=r;rw[<-pl A]at q;exact wM L l (gc.t t ⟨Q,e,Sh,rfl,R,S⟩) m q
   ·cases c
  ·cases c
 ·rename_i R9;split at c
  ·rename_i a;cases c;let⟨W,g,@P,rfl,t,A,W⟩:=u;cases p;rw[<-pl A]at q;cases (show f=bW (.inl a) from r);exact wM L l (gc.k t) m q
  ·rename_i a;cases c;let⟨W,g,@P,rfl,t,A,W⟩:=u;cases p;rw[<-pl A]at q;cases (show f=bW (.inr a) from r);exact wM L l (gc.k t) m q
  ·cases c
 ·cases c
def DM(d:b.A.units+20<bD):ff b (ej .In) oM:=by
 intro G h w j f D s I B l g k m;let⟨Sx,SK,@x,n,o,c,q⟩:=m;unfold oM at c;split at c
 ·let⟨@e,p,r⟩:=cB.mp c;cases r;exact JW d l g k n.i o p λRV t=>⟨.aN e,j,t,rfl,b6.i q rfl⟩
 ·cases c
def Pl{f:ao}(L:b.A.units+20<bD)(l:aB b G w j h)(m:b2 f s)(p:b2 D I)(r:cq j x f)(u:eu j SK D)(c:gD x SK=Z e)(q:∀RV,aB b G w j RV->B (.bool<|!e) RV):wpAny (aM b.prog b.w) b.A (ej .NotIn s I) B b.cH h:=by
 unfold gD at c;split at c
 ·rename_i E;split at c
  ·rename_i d;cases c;rw[cC]at d;let⟨g,@z,rfl,t,A⟩:=u.i;cases p;let⟨@Sa,N,o,W⟩:=l.tuple (c7.of t);have v:=A.eO l.a0 N;refine SeqAt.notIn_tupleAt (ng h.heap x) (show h.heap.IsTuple g Sa.toArray from o) (λH M=>?_) ?_
   ·let⟨@C,F,J⟩:=qW d.2 v ⇑M;rw[qI F J];exact iw 8 F d.1 (by show b.A.units+1+8+1<bD;lia) J (r.eO l.a0 m)
   ·rw[sv,qD d.2 v];exact q h l
  ·cases c
 ·rename_i E;split at c
  ·rename_i d;cases c;rw[cC]at d;let⟨W,g,@z,rfl,t,A,W⟩:=u;cases p;let⟨@Sa,o,v,W⟩:=n7 l t A;refine SeqAt.notIn_listAt (ng h.heap x) o (λH M=>?_) ?_
   ·let⟨@C,F,J⟩:=qW d.2 v ⇑M;rw[qI F J];exact iw 8 F d.1 (by show b.A.units+1+8+1<bD;lia) J (r.eO l.a0 m)
   ·rw[sv,qD d.2 v];exact q h l
  ·cases c
 ·rename_i R9;split at c
  ·rename_i n;split at c
   ·rename_i Q;cases c;let⟨W,g,@P,rfl,t,A,W⟩:=u;cases p;let⟨e,@Sh,rfl,R,S⟩:=r;rw[<-pl A]at q;exact vw L l (gc.t t ⟨Q,e,Sh,rfl,R,S⟩) m q
   ·cases c
  ·cases c
 ·rename_i R9;split at c
  ·rename_i a;cases c;let⟨W,g,@P,rfl,t,A,W⟩:=u;cases p;rw[<-pl A]at q;cases (show f=bW (.inl a) from r);exact vw L l (gc.k t) m q
  ·rename_i a;cases c;let⟨W,g,@P,rfl,t,A,W⟩:=u;cases p;rw[<-pl A]at q;cases (show f=bW (.inr a) from r);exact vw L l (gc.k t) m q
  ·cases c
 ·cases c
def vN(d:b.A.units+20<bD):ff b (ej .NotIn) mm:=by
 intro G h w j f D s I B l g k m;let⟨Sx,SK,@x,n,o,c,q⟩:=m;unfold mm at c;split at c
 ·let⟨@e,p,r⟩:=cB.mp c;cases r;exact Pl d l g k n.i o p λRV t=>⟨.aN<|!e,j,t,rfl,b6.i q rfl⟩
 ·cases c
@[simp] def iA(F Q:f6)(S2 SV Tc:aA bz):aA ai:=λk=>(S2 k).bind λo=>(SV o.2).bind λq=>(du q.2 o.1).bind λSx=>(du q.2 q.1).bind λSK=>(F Sx SK).bind λx=>(jN x).bind λn=>
 if n=aa then (Tc q.2).bind λu=>(du u.2 q.1).bind λa=>(du u.2 u.1).bind λb=>(Q a b).bind λC=>(jN C).map λe=>(.im<|.aN e,u.2) else Z (.im<|.aN ay,q.2)
def I0{B:cx}(d:lH (iA F Q S2 SV Tc) w j B):
  D5 (λf D j B=>∃Sx SK x,eu j Sx f/\eu j SK D/\F Sx SK=Z x/\b6 j x B) (λf D j B=>∃Sx SK x,eu j Sx f/\eu j SK D/\Q Sx SK=Z x/\b6 j x B) (l6 S2) (l6 SV) (l6 Tc) w j B:=by
 let⟨k,N,u,@Sl,Y,aj,a,q⟩:=d;let⟨@⟨I,R_⟩,t,a⟩:=bu.mp a;let⟨@⟨SE,Sv⟩,A,a⟩:=bu.mp a;let⟨@Sx,O,a⟩:=bu.mp a;let⟨@SK,P,a⟩:=bu.mp a;let⟨@x,R,a⟩:=bu.mp a;let⟨@n,S,i⟩:=bu.mp a;have T:=tD S;subst T;refine⟨k,N,I,R_,Y,aj,t,λf R5 Sg U al cw z=>⟨R_,Sg,SE,Sv,al,(c1.mp z.aj).1,A,λD Sf Sp bB o cp p=>?_⟩⟩;have am:g_ Sf w I f U:=cw.mono p.tup λg b m c=>p.keep g m c λd=>(c1.mp z.aj).2.2 g d g b rfl;refine⟨Sx,SK,_,am.read o O,cp.read o P,R,λs J an h Su db ds=>?_⟩;let@⟨rfl,rfl⟩:=(show s=.aN n/\an=[] from Su);refine⟨n,rfl,?_⟩;have L:=z.trans p cw.chg;rw[bg]at L;have r:=L.new h iy (λg b=>nomatch b) o.chg;have M:bc J Sv w Sp:=o.mono h.tupS λg W m c=>h g m c;cases n with
 |false=>
  rw[aG c4]at i ⊢;cases i;exact q _ J Sp [] M ⟨rfl,rfl⟩ r
 |true=>
  rw[aD rfl]at i ⊢;let⟨@⟨y,l⟩,ap,as⟩:=bu.mp i;let⟨@a1,a2,bd⟩:=bu.mp as;let⟨@be,bi,bm⟩:=bu.mp bd;let⟨@C,bn,bs⟩:=bu.mp bm;let⟨@e,bv,ca⟩:=cB.mp bs;cases ca;have cd:=tD bv;subst cd;rw[bR]at r;refine⟨Sv,Sp,y,l,M,r.aj,ap,λH ce ch dL v c_ E=>?_⟩;have ci:=c1.mp p.aj;have cl:g_ ce w SE D bB:=(cp.mono h.tupS λg W m c=>h g m c).mono E.tup λg b m c=>E.keep g m c λd=>ci.2.2 g d g b rfl;refine⟨a1,be,_,cl.read v a2,c_.read v bi,bn,λs co cr G cs eq ev=>?_⟩;let@⟨rfl,rfl⟩:=(show s=.aN e/\cr=[] from cs);exact q _ co ch [] (v.mono G.tupS λg W m c=>G g m c) ⟨rfl,rfl⟩ ((r.seq E).new G iy (λg b=>nomatch b) v.chg)
def Cu{SJ a:kv}{g e p:bj}{Sd:Pos}(c:ff b (ej SJ) F)(d:ff b (ej a) Q)(f:dm b g S2)(i:dm b e SV)(l:dm b p Tc)(m:lastMarks [SJ,a] [e,p]=ay:=by with_unfolding_all rfl):jb b (.Compare g [SJ,a] [e,p] Sd) (bS<|iA F Q S2 SV Tc):=by
 refine A8 (Jb c d f i l m) λw j B r=>?_;let⟨k,N,n,@Sl,Y,aj,u,q⟩:=r;refine I0 ⟨k,N,.im<|.aN n,Sl,Y,aj,?_,λs S SA R1 v Su h=>⟨n,Su.1,q S SA v (by rw[Su.2,bR]at h;exact h)⟩⟩;let⟨@o,t,A⟩:=bu.mp u;let⟨@z,x,y⟩:=cB.mp A;cases y;rw[t,<-tD x]
end
mutual
def bh:X->X->Bool
 |.int a,.int r=>decide (a<r)
 |.str f,.str D=>decide (f.cps.toList<D.cps.toList)
 |.tup g,.tup e=>fE g e
 |_,_=>ay
def fE:List X->List X->Bool
 |[],[]=>ay
 |[],_::_=>aa
 |_::_,[]=>ay
 |g::u,e::y=>if X.beq g e=aa then fE u y else bh g e
end
mutual
def d3:Nat->X->X->Bool
 |_,.int _,.int _=>aa
 |_,.str _,.str _=>aa
 |v+1,.tup g,.tup e=>fs v g e
 |_,_,_=>ay
def fs:Nat->List X->List X->Bool
 |_,[],[]=>aa
 |v,g::u,e::y=>d3 v g e&&fs v u y
 |v,[],e::y=>X.c5 v (e::y)
 |v,g::u,[]=>X.c5 v (g::u)
end
mutual
theorem pA:∀{v:Nat}{g e:X},d3 v g e=aa->X.a5 v g=aa/\X.a5 v e=aa/\b3 g e=X.beq g e
 |v,.int a,.int r,_=>by
  refine⟨by cases v<;>rfl,by cases v<;>rfl,?_⟩;rw[b3,X.beq];by_cases d:a=r<;>simp[d]
 |v,.str f,.str D,_=>by
  refine⟨by cases v<;>rfl,by cases v<;>rfl,?_⟩;rw[b3,X.beq];by_cases d:f=D<;>simp[d]
 |v+1,.tup g,.tup e,d=>by
  rw[d3]at d;let@⟨t,A,b⟩:=zw d;exact⟨t,A,by rw[b3,X.beq];exact b⟩
theorem zw:∀{v:Nat}{g e:List X},fs v g e=aa->X.c5 v g=aa/\X.c5 v e=aa/\e1 g e=X.kX g e
 |v,[],[],_=>⟨by cases v<;>rfl,by cases v<;>rfl,rfl⟩
 |v,[],e::y,d=>⟨by cases v<;>rfl,d,rfl⟩
 |v,g::u,[],d=>⟨d,by cases v<;>rfl,rfl⟩
 |v,g::u,e::y,d=>by
  rw[fs,cC]at d;let@⟨t,A,a⟩:=pA d.1;let@⟨b,c,f⟩:=zw d.2;exact⟨by rw[X.c5,t,b];rfl,by rw[X.c5,A,c];rfl,by rw[e1,X.kX,a,f]⟩
end
def mR{g e:X}(d:¬ g=e):X.beq g e=ay:=by
 cases c:X.beq g e with
 |false=>rfl
 |true=>exact absurd ((X.beq_iff g e).mp c) d
mutual
theorem C2:∀g:X,bh g g=ay
 |.int a=>by simp[bh]
 |.tup g=>by rw[bh];exact D3 g
 |.aX=>rfl
 |.aN _=>rfl
 |.str f=>by rw[bh];exact eX (List.lt_irrefl _)
 |.fn _=>rfl
 |.aT _=>rfl
 |.fd _=>rfl
theorem D3:∀g:List X,fE g g=ay
 |[]=>rfl
 |g::u=>by rw[fE,aD<|(X.beq_iff g g).mpr rfl];exact D3 u
end
mutual
theorem qv:∀{v:Nat}{g e:X},d3 v g e=aa->g≠e->bh g e=!(bh e g)
 |v,.int a,.int r,_,d=>by
  have:a≠r:=λc=>d (by rw[c]);rw[bh,bh];rcases Int.lt_or_gt_of_ne this with L|L
  ·simp[L];lia
  ·simp[L];lia
 |v,.str f,.str D,_,d=>by
  have ne:f.cps.toList≠D.cps.toList:=λc=>d (by
   let⟨f⟩:=f;let⟨D⟩:=D;exact congrArg (λC=>X.str ⟨C⟩) (El.mp c))
  rw[bh,bh];by_cases L:f.cps.toList<D.cps.toList
  ·rw[er L,eX<|List.lt_asymm L];rfl
  ·rw[eX L];by_cases b:D.cps.toList<f.cps.toList
   ·rw[er b];rfl
   ·exact absurd (List.le_antisymm (Ec.mp b)<|Ec.mp L) ne
 |v+1,.tup g,.tup e,d,c=>by
  rw[d3]at d;rw[bh,bh];exact FQ d λC=>c (by rw[C])
theorem FQ:∀{v:Nat}{g e:List X},fs v g e=aa->g≠e->fE g e=!(fE e g)
 |v,[],[],_,d=>absurd rfl d
 |v,[],e::y,_,_=>rfl
 |v,g::u,[],_,_=>rfl
 |v,g::u,e::y,d,c=>by
  rw[fs,cC]at d;rw[fE,fE];by_cases C:g=e
  ·subst C;rw[aD ((X.beq_iff g g).mpr rfl),aD<|(X.beq_iff g g).mpr rfl];exact FQ d.2 λH=>c (by rw[H])
  ·rw[mR C,mR<|λH=>C H.symm,aG c4,aG c4];exact qv d.1 C
end
mutual
theorem r8:∀{v:Nat}{g e p:X},d3 v g e=aa->d3 v e p=aa->bh g e=aa->bh e p=aa->bh g p=aa
 |v,.int a,.int r,.int n,_,_,t,A=>by
  rw[bh]at t A ⊢;have:=fK t;have:=fK A;exact er (by omega)
 |v,.str f,.str D,.str C,_,_,t,A=>by
  rw[bh]at t A ⊢;exact er (List.lt_trans (fK t)<|fK A)
 |v+1,.tup g,.tup e,.tup p,b,c,t,A=>by
  rw[d3]at b c;rw[bh]at t A ⊢;exact Fu b c t A
theorem Fu:∀{v:Nat}{g e p:List X},fs v g e=aa->fs v e p=aa->fE g e=aa->fE e p=aa->fE g p=aa
 |v,[],_,_::_,_,_,_,_=>rfl
 |v,[],[],[],_,_,d,_=>d
 |v,_::_,[],_,_,_,d,_=>by cases d
 |v,_,_::_,[],_,_,_,d=>by cases d
 |v,g::u,e::y,p::I,c,b,t,A=>by
  rw[fs,cC]at c b;rw[fE]at t A ⊢;by_cases f:g=e
  ·subst f;rw[aD ((X.beq_iff g g).mpr rfl)]at t;by_cases a:g=p
   ·subst a;rw[aD ((X.beq_iff g g).mpr rfl)]at A ⊢;exact Fu c.2 b.2 t A
   ·rw[mR a,aG c4]at A ⊢;exact A
  ·rw[mR f,aG c4]at t;by_cases a:e=p
   ·subst a;rw[mR f,aG c4];exact t
   ·rw[mR a,aG c4]at A;have h:=r8 c.1 b.1 t A;have i:¬ g=p:=λH=>by
     subst H;have:=qv b.1 a;rw[t,A]at this;cases this
    rw[mR i,aG c4];exact h
end
def p7(O:bf)(h:ah)(D f:ab)(n:Bool):Prop:=(∀(R3:bp) (H:a7) (RW:ab->ah->Prop) (B:ab->ah->Prop),B (.bool n) h->wpAny (aM R3 H) O (nB .Lt D f) B RW h)
def g5(F:Bool):List (Bool×Bool)->Bool
 |[]=>F
 | (c,n)::u=>if c=aa then g5 F u else n
section
open PySem.SeqAt
open PySem.AutoSeq1 (wpAny_loadPart')
open PySem.MeetsSeq PySem.MeetsSeq2 PySem.MeetsSeq3
def LD(J e:ag)(Sm b:Array ab)(v S8:Nat)(w y:Option ag)(bJ z:Array (Option ab))(RY:List (Bool×Bool))(Q:RY.length=min Sm.size b.size):
  Meets (bq.«tuple.__lt__» ⟨[.ref J,.ref e],[]⟩)
   (λO R1 h=>h.heap.get? J=Z {cls:=.type "tuple",dict:=w,data:=.seq Sm v,slots:=bJ}/\h.heap.get? e=Z {cls:=.type "tuple",dict:=y,data:=.seq b S8,slots:=z}/\
    (∀r (t:r<Sm.size) (A:r<b.size) (l:r<RY.length),EqAt O.in1 h Sm[r] b[r] (RY[r]).1/\((RY[r]).1=ay->p7 O.in1 h Sm[r] b[r] (RY[r]).2))/\
    R1 (.ok<|.ret<|.bool<|g5 (decide (Sm.size<b.size)) RY) h):=
 .of_wp λR3 H O R1 h d=>by
  let⟨j,L,x,SD,M⟩:=h;let@⟨B,C,E,d⟩:=d;have R:=B7;have o:(Sm.toList.zip b.toList).length=min Sm.size b.size:=by simp
  wp_walk using wpAny_loadPart' B,wpAny_loadPart' C,lR _ (λcK e RV=>e.1=V/\RV=⟨j,L,x,SD,M⟩/\∃a,cK=(Sm.toList.zip b.toList).drop a/\
   R1 (.ok<|.ret<|.bool<|g5 (decide (Sm.size<b.size))<|RY.drop a) ⟨j,L,x,SD,M⟩) _
  case turn=>
   rintro⟨D,f⟩ cK e RV ⟨m,rfl,a,g,i⟩;have p:a<(Sm.toList.zip b.toList).length:=by
    rcases gF a (Sm.toList.zip b.toList).length with RU|RU
    ·exact RU
    ·rw[nq RU]at g;cases g
   have S:a<min Sm.size b.size:=o ▸ p;have t:a<Sm.size:=⋯
   have A:a<b.size:=⋯
   have l:a<RY.length:=⋯
   rw[iK p]at g;injection g with q F;have G:D=Sm[a]:=by have:=congrArg Prod.fst q;simpa using this
   have I:f=b[a]:=by have:=congrArg Prod.snd q;simpa using this
   subst G I;rw[iK l]at i;let@⟨s,u⟩:=E a t A l;generalize RY[a]=N at i s u;let⟨c,n⟩:=N;refine aw (s R3 H _ _ ?_);cases c with
   |true=>
    have k:R1 (.ok<|.ret<|.bool<|g5 (decide (Sm.size<b.size))<|RY.drop<|a+1) ⟨j,L,x,SD,M⟩:=i
    wp_walk
    exact⟨rfl,rfl,a+1,F,k⟩
   |false=>
    have k:R1 (.ok<|.ret<|.bool n) ⟨j,L,x,SD,M⟩:=i;have P:=u rfl R3 H
    wp_walk using P
    exact⟨_,rfl,by simpa using k⟩
  case fin=>
   rintro⟨bA,b0⟩ RV ⟨m,rfl,a,g,i⟩;simp only at m;subst m;have T:min Sm.size b.size<=a:=by
    rcases gF a (Sm.toList.zip b.toList).length with RU|RU
    ·rw[iK RU]at g;cases g
    ·exact o ▸ RU
   rw[nq ⋯]at i;have k:R1 (.ok<|.ret<|.bool<|decide (Sm.size<b.size)) ⟨j,L,x,SD,M⟩:=i
   wp_walk
   exact⟨_,rfl,by simpa [bq.Tuple.tupleCompareSizes] using k⟩
  case h=>
   exact⟨rfl,rfl,0,rfl,by simpa using d⟩
end
def kg(E U:List X):List (Bool×Bool):=((E.zip U).map λo=>(b3 o.1 o.2,bh o.1 o.2))
theorem y4:∀{v:Nat}{E U:List X},fs v E U=aa->g5 (decide (E.length<U.length)) (kg E U)=fE E U
 |_,[],[],_=>rfl
 |v,g::u,e::y,d=>by
  rw[fs,cC]at d;show (if b3 g e=aa then g5 (decide (u.length+1<y.length+1)) (kg u y) else bh g e)=fE (g::u) (e::y);rw[fE,(pA d.1).2.2,<-y4 d.2,vF.mpr vx]
 |_,[],_::_,_=>rfl
 |_,_::_,[],_=>rfl
theorem v3{v:Nat}:∀{E U:List X}{r:Nat}{g e:X},fs v E U=aa->E[r]?=Z g->U[r]?=Z e->d3 v g e=aa
 |[],U,r,g,e,_,d,_=>by simp at d
 |x::E,[],r,g,e,_,_,d=>by simp at d
 |x::E,c::U,0,g,e,d,t,A=>by
  rw[fs,cC]at d;cases t;cases A;exact d.1
 |x::E,c::U,r+1,g,e,d,t,A=>by
  rw[fs,cC]at d;exact v3 (r:=r) d.2 ⇑t ⇑A
def Mg{a r:Int}(b:c0 h.heap (.int a) I)(c:c0 h.heap (.int r) s):p7 O h I s (bh (.int a)<|.int r):=by
 let⟨@y,rfl⟩:=b;let⟨@Sw,rfl⟩:=c;intro R3 H RW B q;rw[bh]at q;exact dj.Lf O h a y r Sw R3 H RW B q
def KA{f D:au}(a:c0 h.heap (.str f) I)(b:c0 h.heap (.str D) s):p7 O h I s (bh (.str f)<|.str D):=by
 let⟨y,rfl⟩:=a;let⟨Sw,rfl⟩:=b;intro R3 H RW B q;rw[bh]at q;exact (PySem.P.lt_str q:wpAny (aM R3 H) O (ej .Lt (.str f y)<|.str D Sw) B RW h)
def vv(f D:X):Prop:=((∃a r,f=.int a/\D=.int r)\/∃g e,f=.str g/\D=.str e)
def EF{D:X}(J:vv f D)(b:c0 h.heap f I)(c:c0 h.heap D s):p7 O h I s (bh f D):=by
 rcases J with ⟨a,r,rfl,rfl⟩|⟨g,e,rfl,rfl⟩
 ·exact Mg b c
 ·exact KA b c
def mN:∀{v:Nat}{f D:X},d3 v f D=aa->vv f D\/∃i g e,v=i+1/\f=.tup g/\D=.tup e/\fs i g e=aa:=by
 intro v f D d;unfold d3 at d;split at d
 ·exact .inl (.inl ⟨_,_,rfl,rfl⟩)
 ·exact .inl (.inr ⟨_,_,rfl,rfl⟩)
 ·exact .inr ⟨_,_,_,rfl,rfl,rfl,d⟩
 ·cases d
def DL(v:Nat):∀{O:bf}{f D:X}{I s:ab},d3 v f D=aa->O.units+v+2<bD->c0 h.heap f I->c0 h.heap D s->p7 O h I s (bh f D):=by
 induction v with
 |zero=>
  intro O f D I s d P a b;rcases mN d with J|⟨i,_,_,c,_⟩
  ·exact EF J a b
  ·cases c
 |succ v Q=>
  intro O f D I s d P a b;rcases mN d with J|⟨i,E,U,c,rfl,rfl,d⟩
  ·exact EF J a b
  cases c;let⟨g,m,Sa,@i,rfl,t,A,j,k⟩:=a;let⟨e,SG,M,@R,rfl,l,n,o,p⟩:=b;let⟨cls,S,data,bJ⟩:=m;let⟨a2,T,bd,al⟩:=SG;simp only at A j n o;subst A j n o;have u:E.length=Sa.size:=by rw[k.length,c6]
  have w:U.length=M.size:=by rw[p.length,c6]
  intro R3 H RW B q;rw[bh,<-y4 d,u,w]at q;have am:(kg E U).length=min Sa.size M.size:=by rw[kg,bt,Eg,u,w]
  refine FK (op:=.Lt) ⟨_,t,rfl⟩ ⟨_,l,rfl⟩ PySem.F.slot_tuple_lt PySem.F.entry_tuple_lt (PySem.F.args_tuple_lt_2 _ _) (LD g e Sa M i R S T bJ al (kg E U) am)
   ⟨t,l,λr an ap as=>?_,show ab.bool (g5 (decide (Sa.size<M.size))<|kg E U)≠ab.notImplemented/\B (.bool<|g5 (decide (Sa.size<M.size))<|kg E U) h from ⟨(λf=>nomatch f),q⟩⟩ ⋯;let⟨@Sx,x,y⟩:=k.get (r:=r) (s:=Sa[r]) (by rw[eg];simp[an]);let⟨@SK,z,G⟩:=p.get (r:=r) (s:=M[r]) (by rw[eg];simp[ap]);have lk:=v3 d x z;have L:=pA lk;have a1:(kg E U)[r]=(b3 Sx SK,bh Sx SK):=by
   have:(kg E U)[r]?=Z (b3 Sx SK,bh Sx SK):=by
    rw[kg,dT,(tj (z:=(Sx,SK))).mpr ⟨x,z⟩];rfl
   rw[dr as]at this;exact Option.some.inj this
  rw[a1];exact⟨iw v L.1 L.2.1 (by show O.units+1+v+1<bD;lia) y G,λ_=>Q lk (by show O.units+1+v+2<bD;lia) y G⟩
end L2
namespace L2
open Spec PyProof.Rows PySem.W
variable{x:X}{Sa:List ab}{E:List X}
theorem B3{Sj:Type}{o q:Sj->Bool}:∀{J:List Sj},(∀f∈J,o f=aa->q f=aa)->(∃f∈J,q f=aa/\o f=ay)->J.countP o<J.countP q
 |[],_,d=>by let⟨@f,a,W⟩:=d;cases a
 |g::J,d,⟨f,a,t,A⟩=>by
  rw[AV,AV];have le:J.countP o<=J.countP q:=List.countP_mono_left λD b=>d D (.tail _ b);rcases cc.mp a with rfl|a
  ·rw[t,A];simp;omega
  ·have:=B3 (λD b=>d D<|.tail _ b) ⟨f,a,t,A⟩;have c:=d g (.head _);cases e:o g<;>cases h:q g<;>rw[e,h]at c<;>simp at c ⊢<;>omega
structure nv(E:List X):Prop where
 k2:E.length<=1000
 j6:∀g∈E,∀e∈E,d3 6 g e=aa
structure vH(E:List X):Prop where
 k2:E.length<=1000
 j6:∀g∈E,∀e∈E,d3 6 g e=aa
 aj:E.Nodup
def vH.w{E:List X}(m:vH E):nv E:=⟨m.k2,m.j6⟩
def pj(E:List X)(f:X):Nat:=(E.countP λx=>bh x f)
def Fo(m:nv E){f D:X}(a:f∈E)(b:D∈E)(d:bh f D=aa):pj E f<pj E D:=
 B3 (λC e c=>r8 (m.j6 C e f a) (m.j6 f a D b) c d) ⟨f,a,d,C2 f⟩
def FF(m:nv E){f D:X}(a:f∈E)(b:D∈E):decide ((pj E f:Int)<(pj E D:Int))=bh f D:=by
 cases c:bh f D with
 |true=>exact er (by have:=Fo m a b c;lia)
 |false=>
  refine eX λC=>?_;by_cases d:f=D
  ·subst d;lia
  ·have y:=qv (m.j6 f a D b) d;rw[c]at y;have Sw:bh D f=aa:=by cases q:bh D f<;>rw[q]at y<;>simp at y ⊢
   have:=Fo m b a Sw;lia
def mZ(E:List X)(a:Nat):Int:=(pj E (E.getD a .aX))
def tN{a:Nat}(d:a<E.length):E.getD a .aX∈E:=by
 rw[ct,dr d];exact uO d
def y1(m:nv E){o:Array Nat}(b:cQ E.length o)(i:kA (mZ E) o E.length):(o.toList.map λa=>E.getD a .aX).Pairwise (λg e=>bh e g=ay):=by
 rw[nj];intro a r RT d l;have R6:=b.size;have j:a<E.length:=by simpa [R6] using RT
 have f:r<E.length:=by simpa [R6] using d
 have le:=i a r ⋯ f;have L:∀n (h:n<(o.toList.map λa=>E.getD a .aX).length),(o.toList.map λa=>E.getD a .aX)[n]=E.getD (o.getD n 0) .aX:=λn h=>by
  have k:n<o.size:=by simpa using h
  rw[Cz,zZ];simp[Array.getD,k]
 rw[L a RT,L r d];rw[<-FF m (tN<|b.lt f) (tN<|b.lt j)];refine eX ?_;have c:∀n,(pj E (E.getD (o.getD n 0) .aX):Int)=a6 (mZ E) o n:=λ_=>rfl;rw[c a,c r];lia
theorem tR(f:X):∀J:List X,(j1 bh f J).Perm (f::J)
 |[]=>List.Perm.refl _
 |D::u=>by
  rw[j1];split
  ·exact List.Perm.refl _
  ·exact (List.Perm.cons D<|tR f u).trans (List.Perm.swap f D u)
theorem js:∀J:List X,(fR bh J).Perm J
 |[]=>List.Perm.refl _
 |f::u=>(tR f _).trans (List.Perm.cons f<|js u)
theorem DZ{f:X}:∀{J:List X},J.Pairwise (λg e=>bh g e=aa)->(∀D∈J,f≠D)->(∀g∈f::J,∀e∈f::J,d3 6 g e=aa)->(j1 bh f J).Pairwise (λg e=>bh g e=aa)
 |[],_,_,_=>eY _ _
 |D::u,d,v,lk=>by
  have RU:=h7.mp d;rw[j1];split
  ·rename_i c;refine h7.mpr ⟨λC a=>?_,d⟩;rcases cc.mp a with rfl|a
   ·exact c
   ·exact r8 (lk f (.head _) D<|.tail _<|.head _) (lk D (.tail _<|.head _) C<|.tail _<|.tail _ a) c (RU.1 C a)
  ·rename_i c;refine h7.mpr ⟨λC a=>?_,DZ RU.2 (λC a=>v C<|.tail _ a) λg b e h=>lk g ?_ e ?_⟩
   ·rcases cc.mp ((tR f u).mem_iff.mp a) with rfl|a
    ·have y:=qv (lk C (.head _) D<|.tail _<|.head _) (v D<|.head _);cases q:bh D C with
     |true=>rfl
     |false=>rw[q]at y;exact absurd y c
    ·exact RU.1 C a
   ·rcases cc.mp b with rfl|b
    ·exact .head _
    ·exact .tail _ (.tail _ b)
   ·rcases cc.mp h with rfl|h
    ·exact .head _
    ·exact .tail _ (.tail _ h)
theorem xq:∀{J:List X},J.Nodup->(∀g∈J,∀e∈J,d3 6 g e=aa)->(fR bh J).Pairwise (λg e=>bh g e=aa)
 |[],_,_=>.nil
 |f::u,aj,lk=>by
  have d:=f9.mp aj;refine DZ (xq d.2 λg a e b=>lk g (.tail _ a) e<|.tail _ b) (λD h c=>d.1 (by rw[c];exact (js u).mem_iff.mp h)) λg a e b=>lk g ?_ e ?_
  ·rcases cc.mp a with rfl|a
   ·exact .head _
   ·exact .tail _ ((js u).mem_iff.mp a)
  ·rcases cc.mp b with rfl|b
   ·exact .head _
   ·exact .tail _ ((js u).mem_iff.mp b)
theorem zy{f:X}:∀{J:List X},J.Pairwise (λg e=>bh e g=ay)->(∀g∈f::J,∀e∈f::J,d3 6 g e=aa)->(j1 bh f J).Pairwise (λg e=>bh e g=ay)
 |[],_,_=>eY _ _
 |D::u,d,lk=>by
  have RU:=h7.mp d;unfold j1;split
  ·rename_i c;refine h7.mpr ⟨λC a=>?_,d⟩;cases q:bh C f with
   |false=>rfl
   |true=>
    have y:=r8 (lk C (.tail _ a) f<|.head _) (lk f (.head _) D<|.tail _<|.head _) q c;rcases cc.mp a with rfl|a
    ·rw[C2]at y;cases y
    ·rw[RU.1 C a]at y;cases y
  ·rename_i c;refine h7.mpr ⟨λC a=>?_,zy RU.2 λg b e h=>lk g ?_ e ?_⟩
   ·rcases cc.mp ((tR f u).mem_iff.mp a) with rfl|a
    ·cases q:bh C D with
     |false=>rfl
     |true=>exact absurd q c
    ·exact RU.1 C a
   ·rcases cc.mp b with rfl|b
    ·exact .head _
    ·exact .tail _ (.tail _ b)
   ·rcases cc.mp h with rfl|h
    ·exact .head _
    ·exact .tail _ (.tail _ h)
theorem B_:∀{J:List X},(∀g∈J,∀e∈J,d3 6 g e=aa)->(fR bh J).Pairwise (λg e=>bh e g=ay)
 |[],_=>.nil
 |f::u,lk=>by
  refine zy (B_ λg a e b=>lk g (.tail _ a) e<|.tail _ b) λg a e b=>lk g ?_ e ?_
  ·rcases cc.mp a with rfl|a
   ·exact .head _
   ·exact .tail _ ((js u).mem_iff.mp a)
  ·rcases cc.mp b with rfl|b
   ·exact .head _
   ·exact .tail _ ((js u).mem_iff.mp b)
def vE{J:List X}(m:nv E)(o:J.Perm E)(d:J.Pairwise (λg e=>bh e g=ay)):J=fR bh E:=by
 refine K_ (λg e a b f D=>?_) d (B_ m.j6) (o.trans (js E).symm);by_cases c:g=e
 ·exact c
 ·have y:=qv (m.j6 g (o.mem_iff.mp a) e<|(js E).mem_iff.mp b) c;rw[f,D]at y;cases y
def ir:X->Bool
 |.tup (.int _::_)=>aa
 |.tup (.str _::_)=>aa
 |_=>ay
def qt:X->Bool
 |.tup (.int _::_)=>aa
 |_=>ay
def qX:X->Bool
 |.tup (.str _::_)=>aa
 |_=>ay
def nE:X->Bool
 |.tup (.tup _::_)=>aa
 |_=>ay
section
variable{R3:bp}{H:a7}{O:bf}{RW:ab->ah->Prop}{h:ah}
theorem zL{e F:Bool}(v:Nat)(l:O.units+v+2<bD){B:Bool->ah->Prop}:∀{E U:List X}{T Sq:List ab}{a:Nat},fs v E U=aa->F=decide (E.length<U.length)->dg h.heap E T->dg h.heap U Sq->(e=aa->a=0->∃n u,E=n::u/\∀g,n≠.tup g)->B (fE E U) h->KatLex R3 H O e F B (T.zip Sq) a h
 |[],U,T,Sq,a,_,b,t,A,_,q=>by
  rw[show T=[] from t,b];exact kat_nil (by cases U<;>exact q)
 |x::E,[],T,Sq,a,_,b,t,A,_,q=>by
  rw[show Sq=[] from A,b,FC];exact kat_nil q
 |x::E,c::U,T,Sq,a,d,o,t,A,p,q=>by
  rw[fs,cC]at d;let⟨s,@T,rfl,j,S1⟩:=t;let⟨I,@Sq,rfl,bA,b0⟩:=A;rw[wR];let@⟨w,SU,z⟩:=pA d.1;refine kat_cons (iw v w SU ⋯ j bA R3 H _ _ ?_);rw[z];rw[fE]at q;cases m:X.beq x c with
  |true=>
   rw[m,aD rfl]at q;exact kat_yes (zL v l d.2 (o.trans<|vF.mpr vx) S1 b0 (λ_ C=>⋯) q)
  |false=>
   rw[m,aG c4]at q;refine kat_no ?_;by_cases b:(e&&a==0)=aa
   ·rw[b];rw[cC]at b;let⟨n,@u,C,G⟩:=p b.1 ⇑(b.2);cases C;rcases mN d.1 with J|⟨_,_,_,_,i,_⟩
    ·rcases J with ⟨L,r,i,k⟩|⟨f,D,i,k⟩
     ·cases i;cases k;let⟨@y,rfl⟩:=j;let⟨@Sw,rfl⟩:=bA;rw[bh]at q;exact oneLt_int q
     ·cases i;cases k;let⟨@y,rfl⟩:=j;let⟨@Sw,rfl⟩:=bA;rw[bh]at q;exact oneLt_str q
    ·exact absurd i (G _)
   ·rw[show (e&&a==0)=ay by simpa using b];exact kat_one _ _ (DL v d.1 l j bA R3 H _ _ q)
def x8{e:Bool}(m:nv E)(i:dg h.heap E Sa)(bL:∀x∈E,∃u,x=.tup u)(t:e=aa->∀x∈E,ir x=aa)(R:O.units+9<bD):
  fv Sa.length (mZ E) (eK R3 H O (oA e)<|Sa.toArray.zip Sa.toArray) h:=by
 intro a r ae RT v q;have S:=i.length;have b:=tN (E:=E) (a:=a) ⋯;have c:=tN (E:=E) (a:=r) ⋯;unfold mZ at q;rw[FF m b c]at q;let⟨@Sx,k,w⟩:=i.get (r:=a) (s:=Sa[a]) ↥0;let⟨@SK,l,y⟩:=i.get (r:=r) (s:=Sa[r]) ↥0;rw[ct,k,ct,l]at q;rw[ct,k]at b;rw[ct,l]at c;let⟨@g,A⟩:=bL Sx b;let⟨@j,B⟩:=bL SK c;subst A B;have lk:fs 5 g j=aa:=m.j6 _ b _ c;unfold eK;rw[r5 rfl,r5 rfl,ct,ct,dr RT,dr v];show wpAny _ _ (keyLt' (oA e) Sa[a] Sa[r]) _ _ _;let⟨f,T,z,@U,F,G,al,I,n⟩:=w;let⟨D,am,Sh,@S8,J,L,an,M,o⟩:=y;rw[F,J];refine kat_lt (b:=e) G I L M ?_;have N:g.length=z.size:=by rw[n.length,c6]
 have P:j.length=Sh.size:=by rw[o.length,c6]
 refine zL 5 ⋯ lk (by rw[N,P]) n o (λQ W=>?_) (by have p:ae (bh (.tup g)<|.tup j) h:=q;rw[bh]at p;exact p);have:=t Q _ b;unfold ir at this;split at this
 ·rename_i d;cases d;exact⟨_,_,rfl,λg C=>nomatch C⟩
 ·rename_i d;cases d;exact⟨_,_,rfl,λg C=>nomatch C⟩
 ·cases this
theorem A3:∀{E:List X}{Sa:List ab},dg h.heap E Sa->(∀x∈E,∃F u,x=.tup (F::u))->∃ak,KatTups h.heap Sa ak/\ak.length=Sa.length/\
  ((∀x∈E,qt x=aa)->∀s∈ak,∃a y,s=ab.int a y)/\((∀x∈E,qX x=aa)->∀s∈ak,∃a y,s=ab.str a y)/\((∀x∈E,nE x=aa)->∀s∈ak,∃g aS,s=ab.ref g/\h.heap.get? g=Z aS/\aS.cls=.type "tuple")
 |[],Sa,d,_=>by
  rw[show Sa=[] from d];exact⟨[],trivial,rfl,(λ_ W d=>nomatch d),(λ_ W d=>nomatch d),(λ_ W d=>nomatch d)⟩
 |x::E,Sa,d,j=>by
  let⟨s,@u,rfl,t,A⟩:=d;let⟨@ak,l,n,o,p,r⟩:=A3 A λf e=>j f (.tail _ e);let⟨F,@SW,rfl⟩:=j x (.head _);let⟨g,m,Sm,@v,rfl,w,z,B,D⟩:=t;let⟨k,@N,c,i,O⟩:=D;have G:Sm[0]?=Z k:=by
   rw[<-eg,c];rfl
  refine⟨k::ak,KatTups.cons w z B G l,by simp[n],λC I b=>?_,λC I b=>?_,λC I b=>?_⟩
  ·rcases cc.mp b with rfl|b
   ·have:=C _ (.head _);unfold qt at this;split at this
    ·rename_i q;cases q;exact⟨_,i⟩
    ·cases this
   ·exact o (λf e=>C f<|.tail _ e) I b
  ·rcases cc.mp b with rfl|b
   ·have:=C _ (.head _);unfold qX at this;split at this
    ·rename_i q;cases q;exact⟨_,i⟩
    ·cases this
   ·exact p (λf e=>C f<|.tail _ e) I b
  ·rcases cc.mp b with rfl|b
   ·have:=C _ (.head _);unfold nE at this;split at this
    ·rename_i q;cases q;let⟨H,SG,W,@W,J,L,M,W⟩:=i;exact⟨H,SG,J,L,M⟩
    ·cases this
   ·exact r (λf e=>C f<|.tail _ e) I b
def oX(d:ir x=aa):(qt x=aa\/qX x=aa)/\∃F u,x=.tup (F::u):=by
 unfold ir at d;split at d
 ·exact⟨.inl rfl,_,_,rfl⟩
 ·exact⟨.inr rfl,_,_,rfl⟩
 ·cases d
def A6(d:nE x=aa):∃F u,x=.tup (F::u):=by
 unfold nE at d;split at d
 ·exact⟨_,_,rfl⟩
 ·cases d
def N_{v:Nat}(i:∀f∈E,∀D∈E,d3 v f D=aa)(d:∀x∈E,ir x=aa):(∀x∈E,qt x=aa)\/∀x∈E,qX x=aa:=by
 cases E with
 |nil=>exact .inl λx c=>nomatch c
 |cons f E=>
  have M:∀D∈f::E,∀{q:X->Bool},(q=qt\/q=qX)->q f=aa->q D=aa:=λD e {q} j a=>by
   have J:=i f (.head _) D e;have k:=(oX<|d D e).1;have g:=oX (d f<|.head _);let⟨F,u,rfl⟩:=g.2;let⟨L,y,rfl⟩:=(oX<|d D e).2;cases v with
   |zero=>cases J
   |succ v=>
    rw[d3,fs,cC]at J;rcases j with rfl|rfl
    ·rcases mN J.1 with J|⟨_,_,_,_,b,_⟩
     ·rcases J with ⟨_,_,_,h⟩|⟨_,_,b,_⟩
      ·rw[h];rfl
      ·rw[b]at a;cases a
     ·rw[b]at a;cases a
    ·rcases mN J.1 with J|⟨_,_,_,_,b,_⟩
     ·rcases J with ⟨_,_,b,_⟩|⟨_,_,_,h⟩
      ·rw[b]at a;cases a
      ·rw[h];rfl
     ·rw[b]at a;cases a
  rcases (oX<|d f<|.head _).1 with C|C
  ·exact .inl λx c=>M x c (.inl rfl) C
  ·exact .inr λx c=>M x c (.inr rfl) C
end
section
variable{b:aJ}
theorem bx.pick{j:ax}{Sh:List ao}(d:bx j E Sh):∀{o:List Nat},(∀n∈o,n<E.length)->bx j (o.map λa=>E.getD a .aX) (o.map λa=>Sh.getD a .aX)
 |[],_=>rfl
 |n::o,b=>by
  let⟨@s,c,e⟩:=d.get (a:=n) (x:=E.getD n .aX) (by
   have:=b n (.head _);rw[ct,dr this];rfl)
  refine⟨s,_,?_,e,d.pick λr f=>b r<|.tail _ f⟩;rw[bY,ct,c];rfl
structure iI(E:List X):Prop where
 ord:vH E
 fst:(∀x∈E,ir x=aa)\/(∀x∈E,nE x=aa)
structure qm(E:List X):Prop where
 ord:nv E
 fst:(∀x∈E,ir x=aa)\/(∀x∈E,nE x=aa)
def iI.w{E:List X}(m:iI E):qm E:=⟨m.ord.w,m.fst⟩
def qm.tup(m:qm E):∀x∈E,∃u,x=.tup u:=λx a=>by
 rcases m.fst with C|C
 ·let⟨F,u,c⟩:=(oX<|C x a).2;exact⟨_,c⟩
 ·let⟨F,u,c⟩:=A6 (C x a);exact⟨_,c⟩
def dg.oh{d RU:aV}(n:∀e m,d.get? e=Z m->RU.get? e=Z m){E:List X}{T:List ab}(f:dg d E T):dg RU E T:=f.keep λg m W W c W W=>n g m c
def vb{d:aV}{h:ah}(m:qm E)(A:2<=Sa.length)(j:dg h.heap E Sa)(O:bf)(RW:ab->ah->Prop)(B:gd->ah->Prop)(c:B (oA<|decide (∀x∈E,ir x=aa)) h):
  wpAny (aM b.prog b.w) O (xB Sa.toArray) B RW h:=by
 let⟨@ak,f,r,k,l,n⟩:=A3 j (m.fst.elim (λC x i=>(oX<|C x i).2) λC x i=>A6<|C x i);have t:=j.length;by_cases hf:∀x∈E,ir x=aa
 ·rw[er hf]at c;rcases N_ m.ord.j6 hf with hf|hf
  ·refine w1 (T:=ab.type "int") f ⋯ (λs e=>?_) rfl ?_
   ·let⟨a,@y,rfl⟩:=k hf s e;exact v8 rfl
   ·rw[show (ab.type "int" != ab.type "tuple")=aa by decide];exact c
  ·refine w1 (T:=ab.type "str") f ⋯ (λs e=>?_) rfl ?_
   ·let⟨a,@y,rfl⟩:=l hf s e;exact v8 rfl
   ·rw[show (ab.type "str" != ab.type "tuple")=aa by decide];exact c
 ·rw[eX hf]at c;have o:=m.fst.resolve_left hf;refine w1 (T:=ab.type "tuple") f ⋯ (λs e=>?_) rfl ?_
  ·let⟨g,@aS,rfl,p,q⟩:=n o s e;have:Looks (aM b.prog b.w) h.heap (typeOf<|.ref g) aS.cls:=(Looks.ld p).andThen .now;rw[q]at this;exact this
  ·rw[show (ab.type "tuple" != ab.type "tuple")=ay by decide];exact c
def BK(s:b.calm=aa)(P:b.A.units+20<bD):e7 b (.builtin "sorted") (λz j B=>∃(g:ag) (E:List X) (Sh:List ao),z=[.ref g]/\(dE b.K j g Sh\/c7 b.K j g Sh)/\bx j E Sh/\qm E/\
  ∀J SR,j J=V->bx j (fR bh E) SR->B (.ref J) (upd j J<|.lst SR)):=by
 intro G h w j z Sk B l u d;let⟨g,E,@Sh,rfl,R6,RT,m,q⟩:=d;let⟨@I,rfl,t⟩:=i7 u;cases t;have y:Sh.length<=1000:=by rw[<-RT.length];exact m.ord.k2
 have go:∀{R8:String}{Sa:List ab}{v:Nat}{aS:a3},(R8 = "list" \/ R8 = "tuple")->bN Sh Sa->h.heap.get? g=Z aS->aS.cls=.type R8->aS.data=.seq Sa.toArray v->wpAny (aM b.prog b.w) b.A (call (.builtin "sorted") [.ref g]) (e_ b G w B) b.cH h:=by
  intro R8 Sa v aS C e c aF f;have k:=RT.eO l.a0 e;have D:Sa.length=E.length:=k.length.symm;refine C8 s (mZ E) (oA<|decide (∀x∈E,ir x=aa)) l e C c aF f y (λA p SD n O RW B F=>vb (d:=p) m A (k.oh n) O RW B F) (λp SD n=>?_) (.inl (by have:=m.ord.k2;lia)) λo J i r aT=>?_
  ·refine x8 (h:={h with heap:=p,toks:=SD}) m.ord (k.oh n) m.tup (λL=>?_) (by show b.A.units+1+1+9<bD;lia);exact fK L
  ·rw[D]at i r;have M:(o.toList.map λa=>E.getD a .aX)=fR bh E:=vE m.ord (rT i) (y1 m.ord i r);refine q J _ aT ?_;rw[<-M];exact RT.pick λn N=>en.mp (i.mem_iff.mp N)
 rcases R6 with R6|R6
 ·let⟨@Sa,e,o,W⟩:=l.list R6;let⟨@aS,c,aF,⟨@v,f⟩⟩:=o.isList;exact go (.inl rfl) e c aF f
 ·let⟨@Sa,e,o,W⟩:=l.tuple R6;let⟨@aS,c,aF,⟨@v,f⟩⟩:=o;exact go (.inr rfl) e c aF f
theorem AB{j:ax}:∀{R9:List (List X×ao)}{U:List (List X×ag×ab)},dC (λ(o:List X×ao) (q:List X×ag×ab)=>o.1=q.1/\gC j o.1 q.2.1/\b2 o.2 q.2.2) R9 U->
  bx j (R9.map λo=>.tup o.1) (U.map λf=>ao.ref f.2.1)/\bN (U.map λf=>ao.ref f.2.1) (U.map λf=>ab.ref f.2.1)
 |_,_,.nil=>⟨rfl,.nil⟩
 |_,_,.cons u y=>by
  let@⟨t,A⟩:=AB y;exact⟨⟨_,_,rfl,u.2.1.2,t⟩,.cons rfl A⟩
def Bl(a2:b.calm=aa)(db:b.A.units+20<bD):e7 b (.builtin "sorted") (λz j B=>∃(x:ag) (R9:List (List X×ao)),z=[.ref x]/\jF j x (.aO R9)/\iI (R9.map λo=>.tup o.1)/\
  ∀J SR,j J=V->bx j (fR bh<|R9.map λo=>.tup o.1) SR->B (.ref J) (upd j J<|.lst SR)):=by
 intro G h w j z Sk B l u d;let⟨x,@R9,rfl,bd,g,q⟩:=d;let⟨@I,rfl,be⟩:=i7 u;cases be;let@⟨C,P,⟨@U,rel,⟨m,bi,@Ss,bm,bn,bs,bv,aj⟩⟩⟩:=(show d9 b.prog b.w j h.heap x (.aO R9) from bd.ok l.a0);let@⟨RT,p⟩:=AB rel;have S:gQ h.heap x (U.map λf=>ab.ref f.2.1) Ss:=⟨m,bi,bm,bn,bs,by rw[bv,g8];rfl⟩;generalize (U.map λf=>ab.ref f.2.1)=Sa at p S;generalize (U.map λf=>ao.ref f.2.1)=Sh at RT p;generalize ds:(R9.map λo=>X.tup o.1)=E at RT g q;have F:=RT.eO l.a0 p;have T:Sa.length=E.length:=F.length.symm;have k2:=g.ord.k2;have dL:Sh.length=Sa.length:=p.length;have al:Sa.length<=sizeLine:=dx ⋯ (show 1000<=sizeLine by decide);refine yQ w_ vf yA (yV _) ?C
 case C=>
  unfold bq.«sorted»;refine aw (m:=y2 "sorted" 1 1 _) (aR<|aw<|kdu_collect (A:=b.A.in1) (Ip P) (l.ok.hd a2) S al λRU SD L M am=>?_);have ca:L.toList=Sa:=by
   apply w2
   ·rw[c6];exact am.1
   ·intro a t A;have:=am.2 a L.toList[a] (by rw[<-eg];exact dr t);have this:Sa[a]?=Z L.toList[a]:=this;rw[dr A]at this;exact (Option.some.inj this).symm
  rw[ca];refine aw (uw ?_ al);have an:(RU.push<|e8 "list" Sa.toArray 0).get? RU.objs.size=Z (e8 "list" Sa.toArray 0):=dh _ rfl;have bS:∀e m,h.heap.get? e=Z m->(RU.push<|e8 "list" Sa.toArray 0).get? e=Z m:=λe m c=>cg _ (M e m c);have ap:aB b G w j {h with heap:=RU,toks:=SD}:=l.kept M;have as:∀e m,h.heap.get? e=Z m->e≠RU.objs.size:=λe m c=>cR (ck<|M e m c);refine aw (fU<|i0 yw ⟨_,an,rfl⟩ xo ?D<|yj _)
  case D=>
   refine yC (h:={h with heap:=RU.push (e8 "list" Sa.toArray 0),toks:=SD}) (mZ E) (oA<|decide (∀x∈E,ir x=aa)) an
    (λA N Q B cd=>vb (b:=b) (d:=N) g.w A (F.oh λe m r=>Q e m (as e m r)<|bS e m r) _ _ B cd)
    (λN Q=>x8 (h:={h with heap:=N,toks:=SD}) g.w.ord (F.oh λe m r=>Q e m (as e m r)<|bS e m r) g.w.tup (λce=>fK ce) (by show b.A.units+1+1+9<bD;lia))
    (.inl ⋯) ⋯ λo A k a1 ch ⟨ci,cl⟩=>⟨_,rfl,aR ⟨_,rfl,?_⟩⟩;have co:j RU.objs.size=V:=ap.a0.fresh (bl _);have cr:∀e m,RU.get? e=Z m->e≠RU.objs.size:=λe m c=>cR (ck c);rw[T]at k a1;refine⟨.ref RU.objs.size,upd j RU.objs.size<|.lst<|o.toList.map λa=>Sh.getD a .aX,?_,rfl,q _ _ co ?_⟩
   ·refine ap.laid (Sw:=SD) (λe I c=>ch e I (cr e I c)<|cg _ c) (bl _) ⟨?_,_,ci,?_,cl⟩
    ·rw[bt,c6,k.size];lia
    ·refine rM ↥0 λa s I t A=>?_;rw[dT]at t A;cases R:o.toList[a]? with
     |none=>rw[R]at t;cases t
     |some n=>
      rw[R]at t A;cases t;cases A;have v:n<Sa.length:=by rw[T];exact en.mp (k.mem_iff.mp<|e0 R)
      let⟨@I,y,cs⟩:=p.get (a:=n) (f:=Sh[n]'⋯) (by simp[show n<Sh.length by lia]);rw[dr v]at y;have y:=Option.some.inj y;simp only[List.getD,dr v,dr (show n<Sh.length by lia),qz];rw[y];exact cs
   ·rw[<-vE g.w.ord (rT k) (y1 g.w.ord k a1)];exact RT.pick λn v=>en.mp (k.mem_iff.mp v)
def mP(E:List X):Bool:=(decide (E.length<=1000)&&E.all (λg=>E.all λe=>d3 6 g e)&&decide E.Nodup&&(E.all ir || E.all nE))
def p6:mP E=aa↔iI E:=by
 unfold mP;rw[cC,cC,cC,rQ,fi,fi,j_,j_,j_];constructor
 ·rintro⟨⟨⟨t,A⟩,a⟩,b⟩;exact⟨⟨t,λg c e d=>j_.mp (A g c) e d,a⟩,b⟩
 ·rintro⟨⟨t,A,a⟩,b⟩;exact⟨⟨⟨t,λg c=>j_.mpr λe d=>A g c e d⟩,a⟩,b⟩
def ip(E:List X):Option ai:=(if mP E=aa then Z (.lst<|fR bh E) else V)
def hG:jB:=(λE=>match E with
 |[.lst f]=>match qN f with
  |some P=>v9 [.lst f]
  |none=>ip f
 |[.im (.tup f)]=>ip f
 |[.aO R9]=>ip (R9.map λo=>.tup o.1)
 |[.eV R9]=>ip (R9.map λo=>.tup o.1)
 |_=>V)
def tT{x:ai}(d:ip E=Z x):iI E/\x=.lst (fR bh E):=by
 unfold ip at d;split at d
 ·rename_i c;cases d;exact⟨p6.mp c,rfl⟩
 ·cases d
theorem xd{j:ax}:∀{R9:List (List X×X)}{P:List (List X×ao)},d_ j R9 P->(R9.map λo=>X.tup o.1)=P.map λo=>X.tup o.1
 |_,_,.nil=>rfl
 |_,_,.cons u y=>by rw[bY,bY,xd y,u.1]
def r6(g:b.calm=aa)(k:b.A.units+20<bD):hD b (.builtin "sorted") hG:=by
 intro G h w j z Sk B l u r;let⟨E,@x,n,c,q⟩:=r;unfold hG at c;split at c
 ·rename_i f;split at c
  ·exact HO g k G h w j z Sk B l u ⟨_,x,n,c,q⟩
  ·let@⟨d,rfl⟩:=tT c;let⟨@s,rfl,⟨W,o,@Sh,rfl,t,A,W⟩⟩:=gy n;exact BK g k G h w j _ Sk B l u ⟨o,f,Sh,rfl,.inl<|dE.of t,A,d.w,λJ SR aT e=>b6.l q aT e⟩
 ·rename_i f;let@⟨d,rfl⟩:=tT c;let⟨@s,rfl,p⟩:=gy n;let⟨o,@Sh,rfl,t,A⟩:=p.i;exact BK g k G h w j _ Sk B l u ⟨o,f,Sh,rfl,.inr<|c7.of t,A,d.w,λJ SR aT e=>b6.l q aT e⟩
 ·rename_i R9;let@⟨d,rfl⟩:=tT c;let⟨@s,rfl,⟨W,o,@P,rfl,t,A,W⟩⟩:=gy n;rw[xd A]at d q;exact Bl g k G h w j _ Sk B l u ⟨o,P,rfl,.inl t,d,λJ SR aT e=>b6.l q aT e⟩
 ·rename_i R9;let@⟨d,rfl⟩:=tT c;let⟨s,rfl,p⟩:=gy n;let⟨W,o,P,m,rfl,t,A,W⟩:=p;rw[xd A]at d q;exact Bl g k G h w j _ Sk B l u ⟨o,P,rfl,.inr ⟨m,t⟩,d,λJ SR aT e=>b6.l q aT e⟩
 ·cases c
end
end L2
namespace PySem
open PySem.Sem (wp)
def LK:xj (.type "list") "keys" = pure V:=by rw[xN,wX];kernel_rfl
def OP{R3:bp}{H:a7}{O:bf}{RW:ab->ah->Prop}{h:ah}{g:ag}{z:Array ab}{n:Nat}{B:Option ab->ah->Prop}(a:h.heap.get? g=Z {cls:=.type "list",data:=.seq z n})(j:O.handled=V)(d:∀RU SD,(∀e m,h.heap.get? e=Z m->RU.get? e=Z m)->B V {h with heap:=RU,toks:=SD}):wpAny (aM R3 H) O (getAttr? (.ref g) "keys") B RW h:=by
 let⟨k,L,x,SD,M⟩:=h;have b:∀f,(⟨k,L,x,f,M⟩:ah).TypeIs (.ref g) "list" := λ_=>⟨_,a,rfl⟩;have q:=sub_AttributeError;have r:=vA.lookup;have s:=vA.bind (.ref g);have t:=am_list_getattr_none;unfold getAttr? getAttrBy? getAttrBy;repeat (any_goals (first|assumption|exact b _|((with_reducible show wpAny _ _ (call (ab.builtin "list.__getattribute__") _ _) _ _ _);refine qr vA (b _) am_entry_list_getattribute (F.args_list_getattribute_2 _ _) (meets_getattribute_miss_list g z n _ "keys" _ LK (by decide +kernel) ∅) ⟨a,j,λRU f c i=>?_⟩)|wp_step))
 let⟨Sw,@u,l⟩:=i.there;show wpAny _ _ (EC _ _ _ _ _ _ _) _ _ _;unfold EC;have o:∀p,(⟨RU,L,x,p,M⟩:ah).TypeIs (.ref c) "AttributeError" := λ_=>⟨_,l,rfl⟩;repeat (any_goals (first|assumption|exact o _|wp_step))
 exact d RU _ i.keeps
end PySem
namespace PySem
namespace F
def C_:nX pM "dict.update.loop" = Z bq.«dict.update.loop»:=Au (by kernel_rfl)
def tp:plainId "dict.update.loop" = aa:=by decide +kernel
end F
end PySem
namespace L2
open Spec PyProof.Rows PySem.W
variable{Sd:Pos}{s n:bj}
theorem yF{Sj SX:Type}{N:Sj->SX->Prop}:∀{b:List Sj}{c:List SX},dC N b c->∀(a:Nat),a<b.length->∃g e,b[a]?=Z g/\c[a]?=Z e/\N g e
 |_,_,.nil,a,d=>by simp at d
 |_,_,.cons u y,0,d=>⟨_,_,rfl,rfl,u⟩
 |_,_,.cons u y,a+1,d=>by
  let⟨g,@e,f,D,C⟩:=yF y a ⇑d;exact⟨g,e,by simpa using f,by simpa using D,C⟩
def oD:List X->Option (List<|List X×X)
 |[]=>Z []
 |.tup [.tup n,x]::u=>(oD u).map λh=>(n,x)::h
 |_=>V
def K5:∀{f:List X}{RY:List (List X×X)},oD f=Z RY->f=RY.map λo=>.tup [.tup o.1,o.2]:=by
 intro f;induction f with
 |nil=>intro RY d;cases d;rfl
 |cons g f a=>
  intro RY d;unfold oD at d;split at d
  ·cases d;rename_i c;cases c
  ·rename_i n x u c;cases c;let⟨@h,b,e⟩:=cB.mp d;cases e;rw[bY,<-a b]
  ·cases d
def ly(RY:List (List X×X)):List (List X×X):=(RY.foldl (λg o=>iL g o.1 o.2) [])
def yW(j:ax)(s:ao)(o:List X×X):Prop:=(∃y g D,s=.ref y/\j y=Z (.tup [.ref g,D])/\gC j o.1 g/\cq j o.2 D)
theorem zE{j:ax}:∀{RY:List (List X×X)}{Sh:List ao},(∀o∈RY,X.keys 7 o.1=aa)->bx j (RY.map λo=>.tup [.tup o.1,o.2]) Sh->dC (yW j) Sh RY
 |[],Sh,_,d=>by rw[show Sh=[] from d];exact .nil
 |o::RY,Sh,a,d=>by
  let⟨s,@u,rfl,⟨y,@SR,rfl,t,⟨v1,@m,rfl,A,⟨b,@c,rfl,e,f⟩⟩⟩,h⟩:=d;cases (show c=[] from f);let⟨g,@Sq,rfl,i,k⟩:=A;exact .cons ⟨y,g,b,rfl,t,⟨a o<|.head _,g,Sq,rfl,i,k⟩,e⟩ (zE (λq l=>a q<|.tail _ l) h)
section
variable{b:aJ}{G:List (ag×a3)}{w:L2.aZ}{j:ax}{S_:ah}
def cY.is{R9:List (List X×ao)}{z:List (List X×ag×ab)}(u:cY j R9 z):∀f∈z,gC j f.1 f.2.1:=by
 intro f b;let⟨a,RT,rfl⟩:=mx.mp b;let⟨o,@q,t,A,c,d,W⟩:=yF u a (by rw[dC.length u];exact RT);rw[dr RT]at A;have A:=Option.some.inj A;subst A;rw[<-c];exact d
def xb(a:aB b G w j S_){k:ag}{d RU:aV}{R9:List (List X×ao)}{z:List (List X×ag×ab)}(c:d.DictOfH (dU b.prog b.w) k z)(SN:cY j R9 z)(cL:∀e m,S_.heap.get? e=Z m->RU.get? e=Z m)(g:∀m,d.get? k=Z m->RU.get? k=Z m):RU.DictOfH (dU b.prog b.w) k z:=by
 let⟨m,U,@Ss,t,A,h,i,W,l⟩:=c;have n:aB b G w j {S_ with heap:=RU}:=a.kept (Sw:=S_.toks) cL;exact⟨m,U,Ss,g m t,A,h,i,λf o=>kB (d:=RU) n.a0<|SN.is f o,l⟩
def Q9(r:aB b G w j S_){O:bf}(as:O.units+20<bD){k eR J:ag}{T:List ab}{Sh:List ao}{RY:List (List X×X)}{aZ:Nat->aV->Prop}{R1:mA->ah->Prop}(t:bN Sh T)(Q:dC (yW j) Sh RY)(fn:RY.length<=1000)(W:jx b.prog b.w O.in1 eR [eR,J] [eR] T.length (λa s=>T[a]?=Z s) aZ)(a1:S_.heap.get? k=V)(u:S_.heap.get? eR=V)(x:k≠eR)(a2:k≠J)(bd:∀(h:ah) (z:List (List X×ag×ab)) (R9:List (List X×ao)),(∀e m,S_.heap.get? e=Z m->h.heap.get? e=Z m)->h.heap.DictOfH (dU b.prog b.w) k z->cY j R9 z->d_ j (ly RY) R9->R9.length<=1000->
   h.gens=S_.gens->h.drawn=S_.drawn->h.os=S_.os->R1 (.ok<|.ret .none) h):
  ∀(i a:Nat) (y:gJ) (h:ah) (z:List (List X×ag×ab)) (R9:List (List X×ao)),T.length-a=i->a<=T.length->aZ a h.heap->(∀e m,S_.heap.get? e=Z m->h.heap.get? e=Z m)->
   h.heap.DictOfH (dU b.prog b.w) k z->cY j R9 z->d_ j (ly<|RY.take a) R9->R9.length<=a->h.gens=S_.gens->h.drawn=S_.drawn->h.os=S_.os->
   codeAny (aM b.prog b.w) O (.builtin "dict.update.loop" ⟨[.ref k,.ref eR,.int a y,.none],[]⟩) R1 h:=by
 have fr:T.length=RY.length:=by rw[<-t.length,dC.length Q]
 intro i;induction i with
 |zero=>
  intro a y h z R9 be RT Y cL A SN q bi B E L;have bm:a=T.length:=⋯
  refine jw F.C_ ?_;rw[ke F.tp _];refine aw (m:=fz (.ref eR)) (W.done h _ _ (bm ▸ Y) λRU SD keep=>?_);refine aw (m:=bq.Dict.addKeywords k []) (aR<|aR ?_);have l:∀e m,e≠eR->h.heap.get? e=Z m->RU.get? e=Z m:=λe m f c=>keep e m ⇑f c;refine bd _ z R9 (λe m c=>l e m (λC=>by rw[C,u]at c;cases c)<|cL e m c) ?_ SN (by rw[y0 ⋯]at q;exact q) ⋯ B E L;exact xb r A SN (λe m c=>l e m (λC=>by rw[C,u]at c;cases c)<|cL e m c) λm c=>l k m x c
 |succ i bn=>
  intro a y h z R9 be RT Y cL A SN q bi B E L;have lt:a<T.length:=⋯
  refine jw F.C_ ?_;rw[ke F.tp _];refine aw (m:=fz (.ref eR)) (W.item a h _ _ lt Y λs RU SD bs bv keep=>?_);have l:∀e m,e≠eR->h.heap.get? e=Z m->RU.get? e=Z m:=λe m f c=>keep e m ⇑f c;let⟨D,@p,ca,cd,⟨o,g,@R,rfl,ce,S,ch⟩⟩:=yF Q a (by rw[t.length];exact lt);let⟨@I,U,ci⟩:=t.get ca;rw[bs]at U;cases U;cases ci;have P:∀e m,S_.heap.get? e=Z m->RU.get? e=Z m:=λe m c=>l e m (λC=>by rw[C,u]at c;cases c) (cL e m c);have al:aB b G w j {S_ with heap:=RU}:=r.kept (Sw:=S_.toks) P;have cl:=xb r A SN P λm c=>l k m x c;let@⟨_,⟨@Sa,co,⟨@m,am,cr,⟨@v,cs⟩⟩⟩⟩:=al.a0 _ _ ce;let⟨cw,@cp,rfl,db,ds⟩:=q9 co;cases db;show wpAny (aM b.prog b.w) O.in1 (holding [.ref o] _ >>= λ_=>again _) _ _ _;refine aw (fU<|aw<|pO ?_);unfold bq.Dict.pairItems;refine aw (lp (s:={h with heap:=RU,toks:=SD}) (⟨m,am,(Prod.mk.inj cr).1⟩:ah.TypeIs {h with heap:=RU,toks:=SD} (.ref o) "tuple") ?_);rw[aD ∅];refine aw (k0 (s:={h with heap:=RU,toks:=SD}) am cs<|aR ?_);show wpAny (aM b.prog b.w) O.in1 (holding [.ref g,cp]<|dictSet k (.ref g) cp) _ _ _;refine fU (Dn (s:={h with heap:=RU,toks:=SD}) (k:=p.1) (knd:=dU b.prog b.w) (pH as) (kB (d:=RU) al.a0 S) cl (λdL eq cJ=>?_) (by
   have:=dC.length SN;exact dx (show z.length<=1000 by lia) ∅))
  have an:∀e m,e≠k->RU.get? e=Z m->dL.get? e=Z m:=λe m f c=>(cJ.2 e f).trans c;have ev:=SN.put p.1 (e:=g) (D:=R) (I:=cp) S ds;have ex:RY.take (a+1)=RY.take a++[p]:=by
   have ap:=(e4.mp cd);rw[CU ap.1,ap.2]
  have fd:d_ j (ly<|RY.take<|a+1) (gG R9 p.1 R):=by
   rw[ex];unfold ly;rw[sJ];exact d_.put ch q
  refine aR ⟨jl F.tp _,bn (a+1) 0 _ _ _ ⋯ lt (W.frame _ _ _ bv λe f m c=>an e m (λC=>by
    subst C;rcases cc.mp f with C|f
    ·exact x C
    ·exact a2 (cm.mp f)) c) (λe m c=>an e m (λC=>by rw[C,a1]at c;cases c)<|P e m c) eq ev fd ?_ B E L⟩
  unfold gG;split
  ·rw[bt];lia
  ·simp;lia
def Ki(D:b.calm=aa)(cr:b.A.units+30<bD):e7 b (.type "dict") (λz j B=>∃(J:ag) (Sh:List ao) (RY:List (List X×X)),z=[.ref J]/\j J=Z (.lst Sh)/\dC (yW j) Sh RY/\RY.length<=1000/\
  ∀(x:ag) (R9:List (List X×ao)),j x=V->d_ j (ly RY) R9->B (.ref x) (upd j x<|.aO R9)):=by
 intro G h w j z Sk B l u d;let⟨J,Sh,@RY,rfl,T,al,am,q⟩:=d;let⟨@I,rfl,an⟩:=i7 u;cases an;let@⟨C,⟨Sa,@v,ap,c⟩⟩:=l.a0 J _ T;have E:J<h.heap.objs.size:=ck c;refine callType_codes (Q₁:=λL P=>L=.ref h.heap.objs.size/\P={h with heap:=h.heap.push {cls:=.type "dict",data:=.dict #[]} }) PySem.F.kt_called_dict (PySem.F.kt_typeCall_dict_1 _) PySem.F.entry_dict_init (kt_code_dict_new _ ⟨rfl,rfl⟩) ?_;rintro L P ⟨rfl,rfl⟩;have as:(h.heap.push {cls:=.type "dict",data:=.dict #[]}).DictOfH (dU b.prog b.w) h.heap.objs.size []:=aV.DictOfH.new h.heap;have Q:ah.TypeIs {h with heap:=h.heap.push {cls:=.type "dict",data:=.dict #[]} } (.ref h.heap.objs.size) "dict" := ⟨_,dh _ rfl,rfl⟩;have g:(h.heap.push {cls:=.type "dict",data:=.dict #[]}).get? J=Z {cls:=.type "list",data:=.seq Sa.toArray v}:=cg _ c;refine⟨Q,PySem.F.args_dict_init_2 _ _,?_⟩;unfold bq.«dict.__init__»;refine aw ?_;unfold bq.Dict.selfAndRest;refine aw (Fb Q ?_);show wpAny _ _ (pure (h.heap.objs.size,[ab.ref J])) _ _ _;refine aR ?_;show wpAny _ _ (bq.Dict.updateFrom "dict.__init__" h.heap.objs.size (.ref J) [] .none) _ _ _;unfold bq.Dict.updateFrom;refine aw (lp (⟨_,g,rfl⟩:ah.TypeIs {h with heap:=h.heap.push {cls:=.type "dict",data:=.dict #[]} } (.ref J) "list") ?_);rw[aD ∅];refine aw (OP (h:={h with heap:=h.heap.push {cls:=.type "dict",data:=.dict #[]} }) g (l.ok.hd D) λt SD f=>?_);rw[aD (show (V:Option ab).isNone=aa from rfl)];refine aw (m:=rule _) (jy ?_);have R:t.IsList J Sa.toArray:=⟨_,f _ _ g,rfl,v,rfl⟩;refine aw (yB (s:={h with heap:=t,toks:=SD}) R ?_);have n:h.heap.objs.size<t.objs.size:=ck (f _ _<|dh _ rfl);have cL:∀e m,h.heap.get? e=Z m->(t.push {cls:=.type "list_iterator",data:=.fields #[.ref J,.int 0 0]}).get? e=Z m:=λe m o=>cg _ (f e m<|cg _ o);refine aR ⟨jl PySem.F.tp _,?_⟩;have a1:(t.push {cls:=.type "list_iterator",data:=.fields #[.ref J,.int 0 0]}).DictOfH (dU b.prog b.w) h.heap.objs.size []:=xb l (R9:=[]) as .nil cL λm a2=>cg _ (f _ _ a2);have bd:J≠t.objs.size:=cR (pC E n);refine Q9 l (O:=b.A.in1) (by show b.A.units+1+20<bD;lia) (k:=h.heap.objs.size) (eR:=t.objs.size) (J:=J) (aZ:=λa d=>d.IsListIter t.objs.size J a/\d.IsList J Sa.toArray) ap al am ?_ (yg<|bl _) (yg<|lD n) (cR n) (kD E)
  (λRV z R9 be bi bm bn db p r y=>?_) Sa.length 0 0 _ [] [] rfl (gP _) ?_ cL a1 .nil .nil (bl _) rfl rfl rfl
 ·have W:=jx.list (prog:=b.prog) (w:=b.w) (A:=b.A.in1.in1) (l.ok.hd D) t.objs.size J bd Sa.toArray;have bs:(λ(a:Nat) (s:ab)=>Sa.toArray[a]?=Z s)=λa s=>Sa[a]?=Z s:=by
   funext a s;rw[uv]
  rw[bs,cO]at W;exact W
 ·let⟨RU,bv,ca,Sw,cd⟩:=RV;have p:bv=h.gens:=p;have r:ca=h.drawn:=r;have y:cd=h.os:=y;subst p r y;have S:j h.heap.objs.size=V:=l.a0.fresh (bl _);let⟨m,U,@Ss,ce,ch,ci,cl,N,co⟩:=bi;refine⟨rfl,.ref h.heap.objs.size,_,l.laid (m:=.aO R9) (RU:=RU) (Sw:=Sw) be (bl _) ⟨dx (show R9.length<=1000 by lia) ∅,lS.mpr<|eH<|cR l.big,z,bm.keeps λe Sh o=>y5 o S,m,U,Ss,ce,ch,ci,cl,co⟩,rfl,q _ R9 S bn⟩
 ·exact⟨⟨_,dh _ rfl,rfl,rfl⟩,R.push _⟩
@[simp] def oB:jB:=λE=>match E with
 |[.lst f]=>(oD f).bind λRY=>if (RY.all λo=>X.keys 7 o.1)=aa/\RY.length<=1000 then Z (.aO<|ly RY) else V
 |_=>V
def G9(i:b.calm=aa)(k:b.A.units+30<bD):hD b (.type "dict") oB:=by
 refine (Ki i k).imp λz j B l=>?_;let⟨E,@x,m,c,q⟩:=l;unfold oB at c;split at c
 ·rename_i f;let⟨@RY,n,a⟩:=bu.mp c;split at a
  ·rename_i d;cases a;let⟨@s,rfl,⟨W,o,@Sh,rfl,t,A,W⟩⟩:=gy m;rw[K5 n]at A;refine⟨o,Sh,RY,rfl,t,zE (λq p=>j_.mp d.1 q p) A,d.2,λx R9 e r=>?_⟩;have h:cI j (upd j x<|.aO R9):=(cI.refl j).upd e;exact q _ _ [x] h ⟨x,R9,rfl,dV,r.mono h.tupS.tup,rfl⟩ (eY _ _) λg u=>by rw[cm.mp u];exact e
  ·cases a
 ·cases c
end
section
variable{b:aJ}
def PN(SD i:bZ):bZ:=(λw j B=>∀o,j o=V->SD w (upd j o<|.aO []) λf R5=>i w R5 λD Sf=>∃e n,f=.ref e/\gC Sf n e/\Sf o=Z (.aO [])/\B (.ref o) (upd Sf o<|.aO [(n,D)]))
def L6{SD i:bZ}(am:b.A.units+20<bD)(t:bH b n SD)(u:bH b s i):bH b (.Dict [Z n] [s] Sd) (PN SD i):=by
 intro G h w j B l q;have v:=l.a0.fresh (bl h.heap.objs.size);have x:=l.laid (g:=h.heap.objs.size) (m:=.aO []) (RU:=h.heap.push {cls:=.type "dict",data:=.dict #[]}) (Sw:=h.toks) (λ_ W q=>cg _ q) (bl _) (Aa h.heap l.big);refine wpAny_Dict_any rfl rfl ↥0 ↥0 ?_;refine pairTrees_cons_walk (bO (t G _ w _ _ x<|q _ v) λI y ⟨f,R5,E,F,J⟩=>bO (u G y w R5 _ E J) λcp L ⟨D,Sf,a,M,e,p,SQ,d,c,N⟩=>pairTrees_nil_walk ?_);subst SQ;cases F;let@⟨C,P,⟨@z,SN,Q⟩⟩:=zY a.a0 c;cases SN;unfold storeAll;rw[zR];refine aw (aw (Dn (k:=p) (knd:=dU b.prog b.w) (show b.A.units+10<bD by lia) (kB a.a0 d) Q (λRU R cJ=>aR ?_)<|gP _));refine aR ⟨.ref h.heap.objs.size,_,?_,rfl,N⟩;let⟨k,U,@Ss,o,A,S,T,W,al⟩:=R;refine wL (h:=L) a (by rw[c];exact True.intro) cJ ⟨k,o⟩ ⟨(show 1<=sizeLine by decide),P,_,cY.keeps (cY.put (R9:=[]) (z:=[]) .nil p (e:=e) d M) λap Sh r=>?_,k,U,Ss,o,A,S,T,al⟩;rw[b9 (Dx r c<|λC=>nomatch C)];exact r
@[simp] def BN(a b:aA ai):aA ai:=λk=>(a k).bind λo=>(b o.2).bind λq=>match o.1,q.1 with
 |.im (.tup n),.im x=>if X.keys 7 n=aa then Z (.aO [(n,x)],q.2) else V
 |_,_=>V
def OV{y E:aA ai}(L:b.A.units+20<bD)(M:cF b n y)(P:cF b s E):cF b (.Dict [Z n] [s] Sd) (BN y E):=by
 refine eB (L6 L M P) λw j B ⟨k,N,u,Sl,Y,aj,Q,q⟩ o p=>?_;let⟨@⟨Sx,R_⟩,t,A⟩:=bu.mp Q;let⟨@⟨SK,Sv⟩,R,i⟩:=bu.mp A;have h:cI j (L2.upd j o<|.aO []):=(cI.refl j).upd p;have F:o∉N:=λC=>by let⟨@m,c,W⟩:=Y.chg o C;rw[p]at c;cases c
 refine⟨k,N,Sx,R_,Y.mono h.tupS λg W m c=>h g m c,aj,t,λf R5 Sg a2 S T r=>?_⟩;have U:=c1.mp r.aj;refine⟨R_,Sg,SK,Sv,S,U.1,R,λD Sf Sp bB al SE l=>?_⟩;dsimp only at i;split at i
 ·rename_i d0 bd;split at i
  ·rename_i am;cases i;let@⟨cw,rfl⟩:=T;let@⟨cp,rfl⟩:=SE;rw[bR]at r l;have v:=r.seq l;have G:R5 o=Z (.aO []):=r.keep o _ dV F;have H:o∉Sg:=λC=>by
    rcases r.sub o C with d|d
    ·exact F d
    ·rw[dV]at d;cases d
   have x:Sf o=Z (.aO []):=l.keep o _ G H;have J:o∉Sp:=λC=>by
    rcases l.sub o C with d|d
    ·exact H d
    ·rw[G]at d;cases d
   let⟨e,@z,rfl,an,ap⟩:=(show cq Sf (.tup d0) f from cw.mono l.tup.tup);refine⟨e,d0,rfl,⟨am,e,z,rfl,an,ap⟩,x,?_⟩;have gw:d8 Sf (L2.upd Sf o<|.aO [(d0,D)]):=d8.of (λg z c=>by
    have:g≠o:=λC=>by subst C;rw[x]at c;cases c
    rw[b9 this];exact c) λg m I c=>by
    have:g≠o:=λC=>by subst C;rw[x]at c;cases c
    rw[b9 this];exact c
   refine q _ _ Sp [o] (al.mono gw λg a m c=>by
    have ne:g≠o:=λC=>by subst C;exact J a
    rw[b9 ne];exact c) ⟨o,[(d0,D)],rfl,dV,.cons ⟨rfl,cp.mono gw.tup⟩ .nil,rfl⟩ ?_
   refine⟨λg m c a=>?_,λg a=>?_,?_,?_,λg m c=>?_⟩
   ·have:g≠o:=λC=>by subst C;rw[p]at c;cases c
    rw[b9 this];exact v.keep g m (by rw[b9 this];exact c) a
   ·rcases dJ.mp a with d|d
    ·rcases v.sub g d with RU|RU
     ·exact .inl RU
     ·by_cases c:g=o
      ·exact .inr (c ▸ p)
      ·rw[b9 c]at RU;exact .inr RU
    ·exact .inr (by rw[cm.mp d];exact p)
   ·exact c1.mpr ⟨l.aj,eY _ _,λg a e as c=>J (by rw[cm.mp as]at c;rw[<-c];exact a)⟩
   ·exact (h.tupS.trans v.tup).trans gw
   ·by_cases C:g=o
    ·exact⟨_,by rw[C];exact dV⟩
    ·let⟨@SG,a1⟩:=v.grow g m (by rw[b9 C];exact c);exact⟨SG,by rw[b9 C];exact a1⟩
  ·cases i
 ·cases i
end
end L2
namespace L2
open Spec PyProof.Rows
variable{D S3 f:au}{a5:c8 Bool}{Tn Sd o:Pos}{m e g c:bj}{l r a i n v:Nat}{s:ao}{x:ai}{E:List ai}{R Si RY:List au}{ae F:ag}{N:List ag}{j:ax}{w:aZ}{k:aW}{SJ:List ai->Option ai}{id:String}{d SV S2:aA bz}{U:List bj}{L:aA (List bz)}{Sy:List Nat}{Tr:Array (Option ab)}{S0 Tb:Option ag}{Tg:ab}{Q:Φ}{R2:cX}
def q1:List (ag×a3)->Bool
 |[]=>aa
 | (_,m)::u=>(match m.data with
  |.seq _ _=>(match m.cls with | .type v=>v != "list" |_=>aa)
  |_=>aa)&&q1 u
def Nl{Q:List (ag×a3)}{g:ag}{m:a3}{Sa:Array ab}(d:q1 Q=aa)(c:Q.lookup g=Z m)(a:m.cls=.type "list")(b:m.data=.seq Sa v):False:=by
 induction Q with
 |nil=>cases c
 |cons o u h=>
  let⟨e,f⟩:=o;rw[q1,cC]at d;simp only[List.lookup]at c;split at c
  ·cases c;have t:=d.1;rw[b]at t;dsimp only at t;rw[a]at t;exact absurd t ∅
  ·exact h d.2 c
theorem BG{j:ax}:∀P:List Int,bx j (P.map .int) (P.map ao.int)
 |[]=>rfl
 |v::u=>⟨.int v,_,rfl,rfl,BG u⟩
def Rc(a:q1 Q=aa)(j:ax)(g:ag)(P:List Int)(b:rv j)(e:dE Q j g (P.map ao.int))(bL:∃cj,R2 [.cv (P.map .int)]=Z (.im<|.aN aa,cj)){RW:fh}:ib 1 R2 [.ref g] j (λs W=>s=.aN aa) RW:=by
 let⟨@cj,bL⟩:=bL;have f:∃m,j g=Z (.cM m<|.lst<|P.map ao.int):=by
  rcases e with (d|d)|⟨m,Sa,v,t,A,k,h,_⟩
  ·rcases b g with c|⟨m,z,c⟩|⟨z,c⟩
   ·rw[c]at d;cases d
   ·rw[c]at d;cases d
   ·rw[c]at d;cases d
  ·exact d
  ·exact (Nl a t A h).elim
 let⟨@m,i⟩:=f;refine⟨rfl,[.cv (P.map .int)],[],.im<|.aN aa,cj,⟨_,_,[],[],rfl,⟨g,_,m,rfl,i,BG P,rfl⟩,⟨rfl,rfl⟩,rfl⟩,iy,bL,λs S R1 l d W W=>?_⟩;exact d.1
def j2{Sk:List ab}(d:Sk.length=v+1):∃g u,Sk=g::u/\u.length=v:=by
 cases Sk with
 |nil=>cases d
 |cons g u=>exact⟨g,u,rfl,Nat.succ.inj d⟩
def ft.Fn{Y:bI}{fd:fY}(N:ft Q f S3 Y F fd)(d:∀(bW z Sr:ab) (S0:Option ag) (P bQ:ab) (g:ab),jD (Ψ f S3 (gi Y) (e5 Y) (dn Y) .none bW z Sr S0 P bQ) ⟨[g],[]⟩=pure (RY.zip [g]))(b:RY.length=1:=by rfl):fG Q fd RY []:=
 N.binds λbW z Sr S0 P bQ Sk a=>by
  replace a:=a.trans b;let⟨g,@c,rfl,t⟩:=j2 a;obtain rfl:=mW t;exact d bW z Sr S0 P bQ g
def ft.NH{Y:bI}{fd:fY}(N:ft Q f S3 Y F fd)(d:∀(bW z Sr:ab) (S0:Option ag) (P bQ:ab) (g e:ab),jD (Ψ f S3 (gi Y) (e5 Y) (dn Y) .none bW z Sr S0 P bQ) ⟨[g,e],[]⟩=pure (RY.zip [g,e]))(b:RY.length=2:=by rfl):fG Q fd RY []:=
 N.binds λbW z Sr S0 P bQ Sk a=>by
  replace a:=a.trans b;let⟨g,@c,rfl,t⟩:=j2 a;let⟨e,@h,rfl,A⟩:=j2 t;obtain rfl:=mW A;exact d bW z Sr S0 P bQ g e
def ft.GW{Y:bI}{fd:fY}(N:ft Q f S3 Y F fd)(d:∀(bW z Sr:ab) (S0:Option ag) (P bQ:ab) (g e p:ab),jD (Ψ f S3 (gi Y) (e5 Y) (dn Y) .none bW z Sr S0 P bQ) ⟨[g,e,p],[]⟩=pure (RY.zip [g,e,p]))(b:RY.length=3:=by rfl):fG Q fd RY []:=
 N.binds λbW z Sr S0 P bQ Sk a=>by
  replace a:=a.trans b;let⟨g,@h,rfl,t⟩:=j2 a;let⟨e,@i,rfl,A⟩:=j2 t;let⟨p,@j,rfl,c⟩:=j2 A;obtain rfl:=mW c;exact d bW z Sr S0 P bQ g e p
def ft.KO{Y:bI}{fd:fY}(N:ft Q f S3 Y F fd)(d:∀(bW z Sr:ab) (S0:Option ag) (P bQ:ab) (g e p x:ab),jD (Ψ f S3 (gi Y) (e5 Y) (dn Y) .none bW z Sr S0 P bQ) ⟨[g,e,p,x],[]⟩=pure (RY.zip [g,e,p,x]))(b:RY.length=4:=by rfl):fG Q fd RY []:=
 N.binds λbW z Sr S0 P bQ Sk a=>by
  replace a:=a.trans b;let⟨g,@i,rfl,t⟩:=j2 a;let⟨e,@j,rfl,A⟩:=j2 t;let⟨p,@k,rfl,c⟩:=j2 A;let⟨x,@l,rfl,h⟩:=j2 c;obtain rfl:=mW h;exact d bW z Sr S0 P bQ g e p x
structure gN where
 P:bp
 w:a7
 K:Φ
 aE:au->Option ab
 base:aV
def fc(Q:Φ)(f:au)(Y:bI)(F:ag):Prop:=(∃fd,ft Q f f Y F fd/\Ξ Q d1 f=Z (Z<|.ref F))
def f5(Q:Φ)(aE:au->Option ab)(f:au)(Y:bI)(F:ag)(RY:List au):Prop:=(∃fd,ft Q f f Y F fd/\fG Q fd RY []/\aE f=Z (.ref F))
def fJ(R4:bp)(H:a7)(Q:Φ)(aE:au->Option ab)(R7:aV)(n:Nat)(f:au)(Y:bI)(F:ag)(RY:List au)(v:Nat)(R2:cX):Prop:=(∃fd,ft Q f f Y F fd/\fG Q fd RY []/\aE f=Z (.ref F)/\fM R4 H Q aE R7 gk n F fd RY (ib v R2))
abbrev h3(p:gN):=fJ p.P p.w p.K p.aE p.base
def kR{Y:bI}{bW z Sr P bQ:ab}(g:Ξ Q d1 f=Z (Z<|.ref F))(J:Q.lookup F=Z ⟨Tg,Tb,.func<|Ψ f f (gi Y) (e5 Y) (dn Y) .none bW z Sr S0 P bQ,Tr⟩)(p:Φa Q P f=aa)(n:Δ Q (.ref F)=aa):fc Q f Y F:=⟨_,GD J p n,g⟩
section
variable{R4:bp}{H:a7}{Q:Φ}{aE:au->Option ab}{R7 d:aV}{n v:Nat}{f:au}{Y:bI}{F:ag}{RY:List au}{R2:cX}
def fc.bA(u:fc Q f Y F)(b:Q.In d)(c:d.Ns d1 aE)(e:∀(bW z Sr:ab) (S0:Option ag) (P bQ g:ab),jD (Ψ f f (gi Y) (e5 Y) (dn Y) .none bW z Sr S0 P bQ) ⟨[g],[]⟩=pure (RY.zip [g]):=by intros;rfl)(h:RY.length=1:=by rfl):f5 Q aE f Y F RY:=
 have ⟨_,a,g⟩:=u
 ⟨_,a,a.Fn e h,mT b c g⟩
def fc.b0(u:fc Q f Y F)(b:Q.In d)(c:d.Ns d1 aE)(h:∀(bW z Sr:ab) (S0:Option ag) (P bQ g e:ab),jD (Ψ f f (gi Y) (e5 Y) (dn Y) .none bW z Sr S0 P bQ) ⟨[g,e],[]⟩=pure (RY.zip [g,e]):=by intros;rfl)(i:RY.length=2:=by rfl):f5 Q aE f Y F RY:=
 have ⟨_,a,g⟩:=u
 ⟨_,a,a.NH h i,mT b c g⟩
def fc.uH(u:fc Q f Y F)(b:Q.In d)(c:d.Ns d1 aE)(h:∀(bW z Sr:ab) (S0:Option ag) (P bQ g e p:ab),jD (Ψ f f (gi Y) (e5 Y) (dn Y) .none bW z Sr S0 P bQ) ⟨[g,e,p],[]⟩=pure (RY.zip [g,e,p]):=by intros;rfl)(i:RY.length=3:=by rfl):f5 Q aE f Y F RY:=
 have ⟨_,a,g⟩:=u
 ⟨_,a,a.GW h i,mT b c g⟩
def fJ.fd{fd:fY}(ae:fJ R4 H Q aE R7 n f Y F RY v R2)(b:ft Q f f Y F fd):fM R4 H Q aE R7 gk n F fd RY (ib v R2):=by
 let⟨@e,d,W,W,L⟩:=ae;let⟨Tg,Tb,bW,z,Sr,S0,P,bQ,@Tr,c,J,W⟩:=b.ex;let⟨g,h,i,j,k,l,m,o,@p,q,a,W⟩:=d.ex;rw[J]at a;cases a;exact L
def PY(u:fc Q f Y F)(b:Q.In d)(i:d.Ns d1 aE){a:ag}(j:aE f=Z (.ref a)){o:au}(k:∀(bW z Sr:ab) (S0:Option ag) (P bQ:ab) (h:ah) (s:ab),l7 h (Ψ f f (gi Y) (e5 Y) (dn Y) .none bW z Sr S0 P bQ) ⟨[s],[]⟩ [(o,s)])(ae:∀R7,fJ R4 H Q aE R7 n f Y F [o] v R2):
  ∃fd:fY,(∀(h:ah) (s:ab),l7 h fd ⟨[s],[]⟩ [(o,s)])/\∀R7:aV,Q.In R7->R7.Ns d1 aE->fM R4 H Q aE R7 gk n a fd [o] (ib v R2):=by
 let⟨@fd,c,g⟩:=u;cases j.symm.trans (mT b i g);refine⟨fd,?_,λe U U=>(ae e).fd c⟩;let⟨Tg,Tb,bW,z,Sr,S0,P,bQ,@Tr,rfl,J,U⟩:=c.ex;exact k bW z Sr S0 P bQ
def Iy{L:bF}(N:f5 Q aE f Y F RY)(Se:lT Si RY (dn Y))(c:RY.length=v)(d:∀a∈Sy,a<v)(g:Si.Nodup->∀(P:ab) (O:bf) (SS:List ee) (h:ah) (j:ax) (RW:fh),dd n (O.deeper<|h5 f (dn Y) h.heap.objs.size F P)->hM (j9 gk R4 H Q aE R7 Si f (dn Y) F P O SS h j RW).l8 Sy (e5 Y) L):
  fJ R4 H Q aE R7 (n+1) f Y F RY v (dy v Si.length Sy L):=
 have ⟨_,b,e,i⟩:=N
 ⟨_,b,e,i,E_ b Se c d<|g Se.aj⟩
end
section
variable{b:aJ}
def K2{Y:bI}(ae:fJ b.prog b.w b.K b.aE b.base n f Y F RY v R2)(a:dd i b.A)(d:ep b f)(g:fw b (c::U) L)(h:n<=i:=by decide)(j:(f==("__debug__" : au))=ay:=by decide)(k:bC (c::U) b.env=(ay,bK c b.env)::bC U b.env:=by rfl)(l:(ez Sd<|bC U b.env).any (·.1)=ay:=by rfl):
  cF b (.Call (.Name f o) (c::U) [] Sd) (bV v R2 L):=
 have ⟨_,m,e,i,N⟩:=ae
 Rh N (a.mono h) d i m.cL e g j k l
def br{a:Int}{r Sd}:dm b (.Constant (.int a) r Sd) (af<|aF<|.int a):=bw me
def aK(a:Nat){f:au}{Sd:Pos}(c:b.N[a]?=Z f:=by rfl)(d:tQ b.env.scope f:=by first|exact Or.inl rfl|exact Or.inr (Or.inl rfl)|exact Or.inr (Or.inr rfl))(e:(f==("__debug__" : au))=ay:=by decide)(g:(f==("__classdict__" : au))=ay:=by decide):dm b (.Name f Sd) (aq a):=M5 (CX c d e g)
def cG{L:aA bz}(a:dm b c L)(R6:bC [c] b.env=(ay,bK c b.env)::bC [] b.env:=by rfl):fw b [c] (av L aH):=q7 a oN R6
def o6(a:dd i b.A)(c:dm b g S2)(d:dm b e SV)(R6:uo e:=by exact λ_ W=>rfl):cF b (.Subscript g e Sd) (az bo S2 SV):=ie (Aw (by have:=a.un;lia)) c d R6
def dc{F:bj}{L:aA bz}(a:dm b c L)(e:dm b F d)(R6:bC [c,F] b.env=(ay,bK c b.env)::bC [F] b.env:=by rfl)(A:bC [F] b.env=(ay,bK F b.env)::bC [] b.env:=by rfl):fw b [c,F] (av L<|av d aH):=q7 a (cG e A) R6
def ky{F x:bj}{L n:aA bz}(a:dm b c L)(e:dm b F d)(f:dm b x n)(R6:bC [c,F,x] b.env=(ay,bK c b.env)::bC [F,x] b.env:=by rfl)(t:bC [F,x] b.env=(ay,bK F b.env)::bC [x] b.env:=by rfl)(A:bC [x] b.env=(ay,bK x b.env)::bC [] b.env:=by rfl):fw b [c,F,x] (av L<|av d<|av n aH):=q7 a (dc e f t A) R6
def e2(a:Nat){f:au}{c:bj}{L:aA ai}{Sd y:Pos}(d:b.N.Nodup)(e:cF b c L)(RT:b.N[a]?=Z f:=by rfl)(g:kU b.env.scope f:=by exact Or.inl rfl)(h:a∉Sy:=by decide)(R6:nN c (Z<|.Name f y) Sd.line b.env=pure ay:=by rfl)(i:b.fn f=aa\/b.env.scope.names.lookup f=Z .local:=by first|exact .inl rfl|exact .inr rfl|assumption):hZ b Sy (.Assign [.Name f y] c Sd) (cy a L):=yr d RT g e h R6 i
def jK(a:Nat){f:au}{Sd:Pos}(c:b.N.Nodup)(RT:b.N[a]?=Z f:=by rfl)(d:kU b.env.scope f:=by exact Or.inl rfl)(e:a∉Sy:=by decide)(g:b.fn f=aa\/b.env.scope.names.lookup f=Z .local:=by first|exact .inl rfl|exact .inr rfl|assumption):gM b Sy (.Name f Sd) (cz a):=tL c RT d e g
def u3:List au->Bool
 |[]=>aa
 |f::J=>!J.contains f&&u3 J
theorem AF:∀{J:List au},u3 J=aa->J.Nodup
 |[],_=>iy
 |f::J,d=>by
  rw[u3,cC,t9]at d;refine f9.mpr ⟨λC=>?_,AF d.2⟩;rw[wc.mpr C]at d;cases d.1
def uh(a:Nat){f:au}{Sd:Pos}(RT:b.N[a]?=Z f:=by rfl)(c:u3 b.N=aa:=by kernel_rfl)(d:kU b.env.scope f:=by exact Or.inl rfl)(e:a∉Sy:=by decide)(g:b.fn f=aa\/b.env.scope.names.lookup f=Z .local:=by first|exact .inl rfl|exact .inr rfl|assumption):gM b Sy (.Name f Sd) (cz a):=tL (AF c) RT d e g
def NZ{Sz S4 Tt:bj}{So:gV}(own:List au)(SF:List Nat){G:hq}{Tf:eF}{Ts:aA ai}(RT:jP b Sz S4 G)(c:∀a,gM (b.hh (hg b own SF) So a) (qb own.length SF.length) Sz Tf)(d:∀a,cF (b.hh (hg b own SF) So a) Tt Ts)(Se:vj b.env.scope b.N So SF=aa:=by kernel_rfl)(e:b.calm=aa:=by rfl)(aj:SF.Nodup:=by decide)(R6:∀f,nd S4 b.env f=pure f:=by intro W;rfl):cF b (.ListComp Tt [⟨Sz,S4,[],0⟩] So Sd) (gK own.length SF G Tf ot Ts):=
 uL e (u1 _ _ Se rfl rfl) aj RT c (λ_=>HP) d R6
def zk{L d:eF}{a}(c:gM b Sy g L)(f:gM b Sy e d)(h:b.calm=aa:=by rfl)(t:(gB [g,e] b.env).map (·.2)=jC g b.env::(gB [e] b.env).map (·.2):=by rfl)(A:(gB [e] b.env).map (·.2)=jC e b.env::(gB [] b.env).map (·.2):=by rfl)(i:(gB [g,e] b.env).length=2:=by rfl)(j:(gB [g,e] b.env).findIdx? (·.1)=V:=by rfl):gM b Sy (.Tuple [g,e] a Sd) (lX 2<|h9 L<|h9 d nL):=Pg h (Fp c (Fp f PM A) t) i j
def fT(a:hD b (.builtin id) SJ)(d:b.aE f=V)(e:gm f=Z (.builtin id))(g:fw b (c::U) L)(h:ep b f:=by rfl)(i:f ≠ "__name__" := by decide)(j:(f==("__debug__" : au))=ay:=by decide)(k:bC (c::U) b.env=(ay,bK c b.env)::bC U b.env:=by rfl)(l:(ez Sd<|bC U b.env).any (·.1)=ay:=by rfl):
  cF b (.Call (.Name f o) (c::U) [] Sd) (bX SJ L):=Lp a h d e g i j k l
def el{Y:bI}(ae:fJ b.prog b.w b.K b.aE b.base n f Y F RY v R2)(a:dd i b.A)(d:fw b (c::U) L)(e:ep b f:=by rfl)(g:n<=i:=by decide)(h:(f==("__debug__" : au))=ay:=by decide)(j:bC (c::U) b.env=(ay,bK c b.env)::bC U b.env:=by rfl)(k:(ez Sd<|bC U b.env).any (·.1)=ay:=by rfl):
  cF b (.Call (.Name f o) (c::U) [] Sd) (bV v R2 L):=K2 ae a e d g h j k
def de(a:dd i b.A)(c:dm b g S2)(d:dm b e SV)(R6:uo e:=by exact λ_ W=>rfl):dm b (.Subscript g e Sd) (af<|az bo S2 SV):=bw (o6 a c d R6)
def cE{SJ:xx}{F:ai->ai->Option ai}(a:ff b (fH SJ) F)(c:dm b g S2)(d:dm b e SV):dm b (.BinOp g SJ e Sd) (af<|az F S2 SV):=bw (km a c d)
def hW{a}(d:fw b U L):dm b (.Tuple U a Sd) (af<|dz L):=bw (oW d)
end
section
variable{R4:bp}{H:a7}{Q:Φ}{aE:au->Option ab}{R7 d:aV}{n v:Nat}{f:au}{Y:bI}{F:ag}{RY:List au}{R2:cX}
def F5{R4:List au}{y:gV}(g:y.kind=.function:=by rfl)(e:y.isCoroutine=ay:=by rfl)(p:y.isGenerator=ay:=by rfl)(x:Si.Nodup:=by decide +kernel)(c:Si.take R4.length=R4:=by rfl)(F:∀f∈R4,y.names.lookup f=Z .local\/y.names.lookup f=Z .cell:=by decide +kernel)(L:∀D∈y.names,D.2≠.free:=by decide +kernel):lT Si R4 y:=⟨g,e,p,x,c,F,L⟩
def hC{L:bF}(Si:List au)(N:f5 Q aE f Y F RY)(b:Si.Nodup->∀(P:ab) (O:bf) (SS:List ee) (h:ah) (j:ax) (RW:fh),dd n (O.deeper<|h5 f (dn Y) h.heap.objs.size F P)->hM (j9 gk R4 H Q aE R7 Si f (dn Y) F P O SS h j RW).l8 Sy (e5 Y) L)(Se:lT Si RY (dn Y):=by exact F5)(c:RY.length=v:=by rfl)(d:∀a∈Sy,a<v:=by decide):fJ R4 H Q aE R7 (n+1) f Y F RY v (dy v Si.length Sy L):=Iy N Se c d b
end
theorem D6{F:au}{s:ao}:∀{P:List (au×ao)}{r:Nat},(P.map (·.1)).Nodup->(P.map (·.1))[r]?=Z F->(P.map (·.2))[r]?=Z s->P.lookup F=Z s
 |[],r,_,d,_=>by simp at d
 | (g,e)::u,0,_,t,A=>by
  rw[bY,w5]at t A;have a:g=F:=Option.some.inj t;have b:e=s:=Option.some.inj A;subst a;subst b;show (match g==g with|true=>Z e|false=>u.lookup g)=_;rw[gX]
 | (g,e)::u,r+1,aj,t,A=>by
  rw[bY,wg]at t A;have aj:=f9.mp aj;have ne:(F==g)=ay:=by
   rw[lS];intro C;exact aj.1 (C ▸ e0 t)
  show (match F==g with|true=>Z e|false=>u.lookup F)=_;rw[ne];exact D6 aj.2 t A
theorem Eh{F:au}:∀{P:List (au×ao)},F∉P.map (·.1)->P.lookup F=V
 |[],_=>rfl
 | (g,e)::u,d=>by
  have ne:(F==g)=ay:=by
   rw[lS];intro C;exact d (by rw[C];exact .head _)
  show (match F==g with|true=>Z e|false=>u.lookup F)=_;rw[ne];exact Eh λC=>d (.tail _ C)
theorem F1{F:au}{s:ao}:∀{P:List (au×ao)}{r:Nat},(P.map (·.1)).Nodup->(P.map (·.1))[r]?=Z F->(ec F s P).map (·.1)=P.map (·.1)/\(ec F s P).map (·.2)=(P.map (·.2)).set r s
 |[],r,_,d=>by simp at d
 | (g,e)::u,0,_,d=>by
  rw[bY,w5]at d;have c:g=F:=Option.some.inj d;rw[ec,aD c];exact⟨rfl,rfl⟩
 | (g,e)::u,r+1,aj,d=>by
  rw[bY,wg]at d;have aj:=f9.mp aj;let⟨t,A⟩:=F1 (s:=s) aj.2 d;rw[ec,aG λC=>aj.1 (by show g∈_;rw[C];exact e0 d)];exact⟨by rw[bY,bY,t],by rw[bY,bY,A];rfl⟩
theorem wd{F:au}{s:ao}:∀{P:List (au×ao)},F∉P.map (·.1)->ec F s P=P++[(F,s)]
 |[],_=>rfl
 | (g,e)::u,d=>by
  rw[ec,aG λC=>d (by rw[<-C];exact .head _),wd λC=>d<|.tail _ C];rfl
theorem cN.at{j:ax}{x:ai}:∀{E:List ai}{T:List ao}{R2:List ag}{r:Nat},cN j E T R2->E[r]?=Z x->∃s R1 b,T[r]?=Z s/\b4 j x s R1/\(R1++b).Perm R2/\
  ∀S g e a,d8 j S->(∀p∈b,∀m,j p=Z m->S p=Z m)->b4 S g e a->∃h,cN S (E.set r g) (T.set r e) h/\h.Perm (a++b)
 |[],_,_,_,_,c=>by simp at c
 |f::E,_,_,0,d,c=>by
  let⟨s,u,Sg,Sp,rfl,t,A,rfl⟩:=d;cases (Option.some.inj c:f=x);exact⟨s,Sg,Sp,rfl,t,List.Perm.refl _,λS g e a y n H=>⟨a++Sp,⟨e,u,a,Sp,rfl,H,A.mono y n,rfl⟩,List.Perm.refl _⟩⟩
 |f::E,_,_,r+1,d,c=>by
  let⟨s,u,Sg,Sp,rfl,t,A,rfl⟩:=d;let⟨I,R1,b,k,l,o,q⟩:=cN.at (r:=r) A ⇑c;have Sr:∀R1:List ag,(R1++(Sg++b)).Perm (Sg++(R1++b)):=λR1=>by
   rw[<-bg,<-bg];exact eo _ cW
  refine⟨I,R1,Sg++b,by simpa using k,l,(Sr R1).trans<|dp _ o,λS g e a y n H=>?_⟩;let⟨h,v,w⟩:=q S g e a y (λp i=>n p<|di _ i) H;exact⟨Sg++h,⟨s,u.set r e,Sg,h,rfl,t.mono y λp i=>n p<|ea _ i,v,rfl⟩,(dp _ w).trans (Sr a).symm⟩
theorem cN.snoc{j:ax}{x:ai}{s:ao}{R1:List ag}(H:b4 j x s R1):∀{E:List ai}{T:List ao}{R2:List ag},cN j E T R2->cN j (E++[x]) (T++[s]) (R2++R1)
 |[],_,_,d=>by
  let⟨rfl,rfl⟩:=d;exact⟨s,[],R1,[],rfl,H,⟨rfl,rfl⟩,by rw[bR];rfl⟩
 |f::E,_,_,d=>by
  let⟨I,u,Sg,Sp,rfl,t,A,rfl⟩:=d;exact⟨I,u++[s],Sg,Sp++R1,rfl,t,cN.snoc H A,by rw[bg]⟩
theorem Bc{Sj:Type}{s:Sj}:∀{J:List Sj}{r:Nat},J[r]?=Z s->J.set r s=J
 |[],_,d=>by simp at d
 |f::J,0,d=>by
  rw[w5]at d;rw[C4,Option.some.inj d]
 |f::J,r+1,d=>by
  rw[wg]at d;rw[List.set_cons_succ,Bc d]
def qQ{F:au}(Y:bc j k w N)(aj:N.Nodup)(J:k[a]?=Z (Z<|.aS ae R E))(L:R[r]?=Z F)(M:E[r]?=Z x):
  ∃g SI P s R1,w[a]?=Z (Z<|.ref g)/\j g=Z (.ins ae SI P)/\P.lookup F=Z s/\b4 j x s R1/\R1.Nodup/\(∀f∈R1,f∈N)/\∀S b d Se,b4 S b s d->a4 j R1 S (d++Se)->∃SA,bc S (k.set a<|Z<|.aS ae R<|E.set r b) w SA/\a4 j N S (SA++Se):=by
 let⟨v0,a1,Sp,q,⟨g,SI,P,T,R2,rfl,t,⟨i,u,v⟩,A,rfl⟩,O,Sr⟩:=Y.out J;let⟨s,R1,l,y,Q,z,U⟩:=A.at M;have et:(R1++(Sp++g::l)).Perm N:=by
  rw[lM]at Sr z ⊢;intro f;have:=Sr f;have:=z f;simp only[nh,rA] at *;omega
 have e:=c1.mp (et.nodup_iff.mpr aj);have al:g∉R1:=λC=>e.2.2 g C g (di _<|.head _) rfl;have lk:P.lookup F=Z s:=D6 (r:=r) (by rw[i];exact u) (by rw[i];exact L) (by rw[v];exact y);refine⟨g,SI,P,s,R1,q,t,lk,Q,e.1,λf n=>et.mem_iff.mp<|ea _ n,λS b d Se H h=>?_⟩;let⟨B,D,SE⟩:=U S b s d h.tup (λp o m c=>h.keep p m c λC=>e.2.2 p C p (di _<|.tail _ o) rfl) H;rw[Bc y]at D;have own:b4 S (.aS ae R<|E.set r b) (.ref g) (g::B):=⟨g,SI,P,T,B,rfl,h.keep g _ t al,⟨i,u,v⟩,D,rfl⟩;have am:bc S (k.set a<|Z .ed) w Sp:=O.mono h.tup λp o m c=>h.keep p m c λC=>e.2.2 p C p (ea _ o) rfl;let⟨an,ap,G,I⟩:=am.back own q;rw[o3]at G;have S_:a4 j N j (R1++(Sp++g::l)):=a4.perm aj et;have as:=S_.trans (R1:=Sp++g::l) h λf n=>Y.chg f (et.mem_iff.mp<|di _ n);refine⟨an,G,as.less (ae:=ap) ?_⟩;rw[lM]at I SE ⊢;intro f;have:=I f;have:=SE f;simp only[nh,rA] at *;omega
section
variable{b:aJ}
def qM(ae:ag)(r:Nat)(F:au):ai->Option ai
 |.aS p R E=>if p=ae/\R[r]?=Z F then E[r]? else V
 |_=>V
def O3{F:au}{f:ai}(d:qM ae r F f=Z x):∃R E,f=.aS ae R E/\R[r]?=Z F/\E[r]?=Z x:=by
 unfold qM at d;split at d
 ·split at d
  ·rename_i c;let⟨rfl,c⟩:=c;exact⟨_,_,rfl,c,d⟩
  ·cases d
 ·cases d
def pv(ae:ag)(a r:Nat)(F:au)(k:aW):Option ai:=((k[a]?).bind λm=>m.bind (qM ae r F))
def xE{F:au}(d:pv ae a r F k=Z x):∃R E,k[a]?=Z (Z<|.aS ae R E)/\R[r]?=Z F/\E[r]?=Z x:=by
 let⟨m,t,A⟩:=bu.mp d;let⟨f,rfl,b⟩:=bu.mp A;let⟨R,E,rfl,c,e⟩:=O3 b;exact⟨R,E,t,c,e⟩
@[simp] def fa(ae:ag)(a r:Nat)(F:au):aA ai:=λk=>(pv ae a r F k).bind λx=>match x with
 |.im x=>Z (.im x,k)
 |_=>V
def j7(r:Nat){F:au}{m:bj}{Sd:Pos}(p:gx b.K ae)(v:eE b.K ae F)(d:bH b m (hF a))(e:kV m F b.env (bK m b.env)=bK m b.env:=by rfl):cF b (.Attribute m F Sd) (fa ae a r F):=by
 refine eB (pW d e) λw j B f=>?_;let⟨k,N,u,Sl,Y,aj,h,q⟩:=f;let⟨x,t,A⟩:=bu.mp h;split at A
 ·rename_i x;cases A;let⟨R,E,i,l,n⟩:=xE t;let⟨g,SI,P,s,R1,o,y,z,c,W⟩:=qQ Y aj i l n;let⟨c,rfl⟩:=c;exact⟨_,o,g,ae,SI,P,s,rfl,y,p,v,z,q s j N [] Y ⟨c,rfl⟩ (by rw[bR];exact a4.perm aj (List.Perm.refl _))⟩
 ·cases A
@[simp] def uM(SJ:List ai->Option ai)(ae:ag)(a r:Nat)(F:au):aA ai:=λk=>(pv ae a r F k).bind λx=>(SJ [x]).map λu=>(u,k)
def K6(r:Nat){f F:au}{o Sd Tp:Pos}{m:bj}(e:hD b (.builtin id) SJ)(i:ep b f)(l:b.aE f=V)(n:gm f=Z (.builtin id))(p:gx b.K ae)(v:eE b.K ae F)(y:bH b m (hF a))(z:kV m F b.env (bK m b.env)=bK m b.env:=by rfl)(C:f ≠ "__name__" := by decide)(D:(f==("__debug__" : au))=ay:=by decide)(d:bC [.Attribute m F Tp] b.env=(ay,bK (.Attribute m F Tp) b.env)::bC [] b.env:=by rfl)(G:(ez Sd<|bC [] b.env).any (·.1)=ay:=by rfl):
  cF b (.Call (.Name f o) [.Attribute m F Tp] [] Sd) (uM SJ ae a r F):=by
 refine eB (Ge e i l n (uA (pW y z) yG d) C D d G) λw j B I=>?_;let⟨k,N,u,Sl,Y,aj,J,q⟩:=I;let⟨x,t,A⟩:=bu.mp J;let⟨SW,L,M⟩:=cB.mp A;cases M;let⟨R,E,O,T,U⟩:=xE t;let⟨g,SI,P,s,R1,al,am,an,ap,W⟩:=qQ Y aj O T U;refine⟨_,al,g,ae,SI,P,s,rfl,am,p,v,an,[x],u,?_,L,λs S R1 h H as a1=>?_⟩
 ·exact⟨s,[],rfl,⟨R1,ap⟩,rfl⟩
 ·exact q s S N R1 (Y.mono h.tupS λg W m c=>h g m c) H (by
   have S_:a4 j N j (N++[]):=by rw[bR];exact a4.perm aj (List.Perm.refl _)
   exact S_.new h as a1 Y.chg)
def JN{R1:List ag}{f:bz}{x:X}(Y:bc j k w N)(m:g_ j w f s R1)(c:du k f=Z (.im x)):cq j x s/\R1=[]:=by
 have u:eu j (.im x) s:=m.read Y c;let⟨e,b,W⟩:=u;cases f with
 |bJ a=>exact⟨b,m.2⟩
 |cU d=>
  cases (Option.some.inj c:d=.im x);exact m
@[simp] def RE(R2:cX)(L:aA bz)(ae:ag)(a r:Nat)(F:au):aA ai:=λk=>(L k).bind λo=>(du o.2 o.1).bind λSx=>match Sx,o.2[a]? with
 |.im Sx,Z (Z<|.aS p R E)=>if p=ae/\R[r]?=Z F then (E[r]?).bind λSK=>match R2 [.im Sx,SK] with
   |some (u,[_,b])=>Z (u,o.2.set a<|Z<|.aS p R<|E.set r b)
   |_=>V
  else V
 |_,_=>V
@[simp] def hH(ae:ag)(a r:Nat)(F:au)(L:aA ai):bF:=λk=>(L k).bind λo=>match o.2[a]? with
 |some (Z<|.aS p R E)=>if p=ae/\R.length<900 then
   (if R[r]?=Z F/\r<E.length then Z (.aL,o.2.set a<|Z<|.aS p R<|E.set r o.1) else if R.contains F=ay then Z (.aL,o.2.set a<|Z<|.aS p (R++[F])<|E++[o.1]) else V) else V
 |_=>V
def BX{d:List ag}{F:au}{n:List au}{o:List ai}(Y:bc j k w N)(aj:(N++d).Nodup)(H:b4 j x s d)(U:k[a]?=Z (Z<|.aS ae R E))(al:(∃r,R[r]?=Z F/\r<E.length/\n=R/\o=E.set r x)\/(F∉R/\n=R++[F]/\o=E++[x])):
  ∃g SI P,w[a]?=Z (Z<|.ref g)/\j g=Z (.ins ae SI P)/\P.length=R.length/\∃SA,bc (upd j g<|.ins ae SI<|ec F s P) (k.set a<|Z<|.aS ae n o) w SA/\a4 j (N++d) (upd j g<|.ins ae SI<|ec F s P) SA:=by
 let⟨v0,bn,Sp,C,⟨g,SI,P,T,R2,rfl,t,⟨e,u,G⟩,A,rfl⟩,am,Sr⟩:=Y.out U;have et:(g::(Sp++(R2++d))).Perm (N++d):=by
  rw[lM]at Sr ⊢;intro f;have:=Sr f;simp only[nh,rA] at *;omega
 have an:=f9.mp (et.nodup_iff.mpr aj);have Td:fp j g:=⟨_,t,(λ_ c=>by cases c),(λ_ W c=>by cases c)⟩;let S:ax:=upd j g (.ins ae SI<|ec F s P)
 have y:d8 j S:=(a4.chg (SG:=.ins ae SI (ec F s P)) (N:=[g]) (Sg:=[]) (.head _) Td iy<|λf l=>nomatch l).tup;have cL:∀p,p≠g->∀m,j p=Z m->S p=Z m:=λp b m c=>by
  show upd j g _ p=_;rw[b9 b];exact c
 have ne:∀{p:ag},p∈Sp++(R2++d)->p≠g:=λb c=>an.1 (c ▸ b);have own:∃i,b4 S (.aS ae n o) (.ref g) (g::i)/\∃v,(i++v).Perm (R2++d):=by
  rcases al with ⟨r,q,ap,rfl,rfl⟩|⟨q,rfl,rfl⟩
  ·obtain⟨h,as⟩:∃h,E[r]?=Z h:=⟨E[r],dr ap⟩;let⟨I,R1,bs,bv,ca,z,a1⟩:=A.at as;let⟨a2,SU⟩:=F1 (s:=s) (P:=P) (r:=r) (by rw[e];exact u) (by rw[e];exact q);let⟨i,B,SE⟩:=a1 S x s d y (λp b=>cL p<|ne<|di _<|ea _<|z.mem_iff.mp<|di _ b) (H.mono y λp b=>cL p<|ne<|di _<|di _ b);refine⟨i,⟨g,SI,ec F s P,T.set r s,i,rfl,dV,⟨a2.trans e,u,SU.trans (by rw[G])⟩,B,rfl⟩,R1,?_⟩;rw[lM]at z SE ⊢;intro f;have:=z f;have:=SE f;simp only[nh] at *;omega
  ·have B:=cN.snoc (H.mono y λp b=>cL p<|ne<|di _<|di _ b) (A.mono y λp b=>cL p<|ne<|di _<|ea _ b);have J:F∉P.map (·.1):=by rw[e];exact q
   refine⟨R2++d,⟨g,SI,ec F s P,T++[s],R2++d,rfl,dV,⟨by rw[wd J,gq,e];rfl,c1.mpr ⟨u,eY _ _,λf l D bd c=>q (by rw[<-cm.mp bd,<-c];exact l)⟩,by rw[wd J,gq,G];rfl⟩,B,rfl⟩,[],by rw[bR]⟩
 let⟨i,own,v,L⟩:=own;have be:bc S (k.set a<|Z .ed) w Sp:=am.mono y λp b=>cL p (ne<|ea _ b);let⟨M,bi,O,Q⟩:=be.back own C;rw[o3]at O;have all:((M++bi)++v).Perm (N++d):=by
  rw[lM]at Q L et ⊢;intro f;have:=Q f;have:=L f;have:=et f;simp only[nh,rA] at *;omega
 have bm:=all.nodup_iff.mpr aj;refine⟨g,SI,P,C,t,by rw[<-e,bt],M,O,a4.chg (et.mem_iff.mp<|.head _) Td (c1.mp (c1.mp bm).1).1 λf l=>all.mem_iff.mp<|ea _<|ea _ l⟩
def nH(r:Nat){F:au}{m Tj:bj}{L:aA ai}{Sd y:Pos}(p:gx b.K ae)(v:eE b.K ae F)(o:bH b m (hF a))(u:cF b Tj L)(R6:nN Tj (Z<|.Attribute m F y) Sd.line b.env=pure ay:=by rfl):hZ b Sy (.Assign [.Attribute m F y] Tj Sd) (hH ae a r F L):=by
 refine jM (NQ o u R6) λRW w j z=>?_;let⟨k,N,aT,Sl,Y,aj,B,q⟩:=z;let⟨⟨x,R_⟩,t,A⟩:=bu.mp B;dsimp only at A;split at A
 ·rename_i i R E l;split at A
  ·rename_i D;let⟨rfl,H⟩:=D;refine⟨k,N,x,R_,Y,aj,t,λs R5 Sg I n cw d=>?_⟩;split at A
   ·rename_i c;cases A;let⟨g,SI,P,e,f,G,SA,h,RV⟩:=BX n d.aj cw l (.inl ⟨r,c.1,c.2,rfl,rfl⟩);exact⟨_,e,g,i,SI,P,rfl,f,p,v,by omega,q w _ SA cS.refl h<|d.seq RV⟩
   ·split at A
    ·rename_i c;cases A;let⟨g,SI,P,e,f,G,SA,h,RV⟩:=BX n d.aj cw l (.inr ⟨λC=>(by rw[wc.mpr C]at c;cases c),rfl,rfl⟩);exact⟨_,e,g,i,SI,P,rfl,f,p,v,by omega,q w _ SA cS.refl h<|d.seq RV⟩
    ·cases A
  ·cases A
 ·cases A
@[simp] def pk(ae:ag)(a r:Nat)(F:au)(b:Nat)(c:au)(pt:ai->ai->ai->Option ai):eF:=λx k=>match x,k[a]? with
 |.im x,Z (Z<|.aS p R E)=>if p=ae/\R[r]?=Z F/\R[b]?=Z c then (E[r]?).bind λd=>match E[b]? with
   |some (.im n)=>(pt d (.im n)<|.im x).map λe=>k.set a (Z<|.aS p R<|E.set r e)
   |_=>V
  else V
 |_,_=>V
def K3(r:Nat){F:au}(C:Nat){c:au}{pt:ai->ai->ai->Option ai}{m SE:bj}{Sd Tp f:Pos}(D:qe b pt)(p:gx b.K ae)(v:eE b.K ae F)(S8:eE b.K ae c)(G:bH b m (hF a))(J:bH b SE (hF a))(L:kV m F b.env (bK m b.env)=bK m b.env:=by rfl)(M:kV SE c b.env (bK SE b.env)=bK SE b.env:=by rfl)(O:∀s,jC (.Subscript (.Attribute m F Sd) (.Attribute SE c Tp) f) b.env s=(do
   let e <-holding [s] (bK (.Attribute m F Sd) b.env)
   let i <-holding [s,e] (bK (.Attribute SE c Tp) b.env)
   standAt f
   holding [s,e,i] (ri e i s)
   release [s,e,i] []):=by intro W;rfl):gM b Sy (.Subscript (.Attribute m F Sd) (.Attribute SE c Tp) f) (pk ae a r F C c pt):=by
 refine rY (Ea (pW G L) (pW J M) D O) λs w j B T=>?_;let⟨k,N,x,R1,Sl,Y,t,aj,d,q⟩:=T;unfold pk at d;split at d
 ·rename_i x u R E y;split at d
  ·rename_i l;let⟨rfl,l,U⟩:=l;let⟨al,am,A⟩:=bu.mp d;split at A
   ·rename_i n an;let⟨z,ap,as⟩:=cB.mp A;cases as;obtain rfl:R1=[]:=t.2;rw[bR]at aj q;let⟨g,SI,P,I,a1,a2,bd,be,bi,bm,W,bn⟩:=qQ Y aj y l am;let⟨bs,bv,ca,cd,co,ce,ch,ci,o,W⟩:=qQ Y aj y U an;refine⟨_,a2,g,u,SI,P,I,rfl,bd,p,v,be,_,ce,bs,u,bv,ca,cd,rfl,ch,p,S8,ci,al,.im n,.im x,z,a1,[],bi,?_,t,by rw[bR];exact bm,ap,λS bB H h=>?_⟩
    ·let⟨o,rfl⟩:=o;exact⟨o,rfl⟩
    ·let⟨SA,cl,RV⟩:=bn S z bB [] H (by rw[bR]at h ⊢;exact h);rw[bR]at RV;exact q w S SA cS.refl cl RV
   ·cases A
  ·cases d
 ·cases d
@[simp] def dY(ae:ag)(a:Nat)(i:au)(R2:cX):aA ai:=λk=>match k[a]? with
 |some (Z<|.aS p R E)=>if p=ae/\R.contains i=ay then match R2 [.aS p R E] with
   |some (u,[b])=>Z (u,k.set a<|Z b)
   |_=>V
  else V
 |_=>V
variable{fd:fY}
def KZ{i:au}(D:bH b m (hF a))(p:gx b.K ae)(G:dG b.K ae i F)(N:fM b.prog b.w b.K b.aE b.base gk n F fd RY (ib 1 R2))(J:dd l b.A)(L:fG b.K fd RY [])(M:n<=l:=by decide)(bL:bK (.Call (.Attribute m i Tn) [] [] Sd) b.env=(do
   let s <-bK m b.env
   standAt Tn.atName
   let (F,first) <-holding [s] (rf s i a5)
   callWith Sd F first (ez Sd<|bC [] b.env) (pT Sd<|q_ [] b.env)):=by rfl):cF b (.Call (.Attribute m i Tn) [] [] Sd) (dY ae a i R2):=by
 refine eB (Hb (a5:=a5) D p G N (J.mono M) L .nil tq bL) λw j B U=>?_;let⟨k,al,u,Sl,Y,aj,d,q⟩:=U;unfold dY at d;split at d
 ·rename_i am R E an;split at d
  ·rename_i e;let⟨rfl,e⟩:=e;split at d
   ·rename_i SW ap as;cases d;let⟨ca,cd,Sp,v,Su,a1,Sr⟩:=Y.out an;let⟨g,SI,P,T,o,a2,t,⟨bd,ce,ch⟩,A,rfl⟩:=id Su;subst a2;have x:=c1.mp (Sr.nodup_iff.mpr aj);refine⟨_,v,g,SI,P,rfl,t,Eh (by rw[bd];intro C;rw[wc.mpr C]at e;cases e),rfl,[.aS am R E],g::o,u,[ap],⟨_,[],g::o,[],rfl,Su,⟨rfl,rfl⟩,by rw[bR]⟩,x.2.1,as,λI S R1 ci cp c_ h=>?_⟩;let⟨W,W,cl,W,be,bi,⟨rfl,rfl⟩,rfl⟩:=c_;cases be;rw[bR]at h;have bm:bc S (k.set a<|Z .ed) w Sp:=a1.mono h.tup λf r m c=>h.keep f m c λC=>x.2.2 f r f C rfl;let⟨bn,bs,y,z⟩:=bm.back bi v;rw[o3]at y;have S_:a4 j al j ((g::o)++Sp):=a4.perm aj (cW.trans Sr);have bv:=S_.trans (R1:=Sp) h λf r=>Y.chg f (Sr.mem_iff.mp<|ea _ r);refine q I S bn R1 y cp (bv.less (ae:=bs) ?_);rw[lM]at z ⊢;intro f;have:=z f;simp only[nh] at *;omega
   ·cases d
  ·cases d
 ·cases d
@[simp] def pa(ae:ag)(R2:cX)(v:Nat)(L:aA (List bz)):aA ai:=λk=>(L k).bind λo=>if o.1.length=v then (d2 o.1 o.2).bind λq=>match R2 (.aS ae [] []::q.1) with
  |some (.im .aX,m::cj)=>Z (m,g4 o.1 cj q.2)
  |_=>V
 else V
def Ri{L:aA (List bz)}(aA:k9 b.K ae F)(N:fM b.prog b.w b.K b.aE b.base gk n F fd RY (ib (v+1) R2))(S:dd l b.A)(al:ep b f)(am:b.aE f=Z (.ref ae))(an:fG b.K fd RY [])(h:fw b (c::U) L)(ap:n+1<=l:=by decide)(as:(f==("__debug__" : au))=ay:=by decide)(a1:bC (c::U) b.env=(ay,bK c b.env)::bC U b.env:=by rfl)(a2:(ez Sd<|bC U b.env).any (·.1)=ay:=by rfl):cF b (.Call (.Name f o) (c::U) [] Sd) (pa ae R2 v L):=by
 refine eB (IP aA N (S.mono ap) al am an .nil tq h as a1 a2) λw j B bd=>?_;let⟨k,i,u,Sl,Y,aj,be,q⟩:=bd;let⟨⟨M,R_⟩,t,A⟩:=bu.mp be;dsimp only at A;split at A
 ·rename_i bi;let⟨⟨E,Sv⟩,bm,p⟩:=bu.mp A;split at p
  ·rename_i m cj bn;cases p;refine⟨k,i,M,R_,Y,aj,t,λT R5 Sg fr bs r bv=>λf SI z ca ne=>?_⟩;let⟨Sp,bB,x,Su,Sr⟩:=l5 bs r bm;have cd:a4 j i R5 ((bB++Sp)++[]):=by
    rw[bR];exact bv.iZ (Sr.symm.trans cW)
   let Sf:ax:=upd (upd R5 SI<|.own f) f (.ins ae SI [])
   have d:cI R5 Sf:=((cI.refl R5).upd ca).upd (by rw[b9 (eH ne)];exact z);have ce:=cd.new (d:=[f]) d (eY _ _) (λD a=>by rw[cm.mp a];exact z) λD a=>by
    rcases dJ.mp a with a|a
    ·exact Su.chg D a
    ·exact x.chg D a
   have ci:(f::bB)++Sp=f::(bB++Sp):=rfl;have G:a4 j i Sf ((f::bB)++Sp):=ce.iZ (by rw[ci];exact cW);have cl:cN Sf (.aS ae [] []::E) (.ref f::T) (f::bB):=⟨.ref f,T,[f],bB,rfl,⟨f,SI,[],[],[],rfl,dV,⟨rfl,iy,rfl⟩,⟨rfl,rfl⟩,rfl⟩,Su.mono d.tupS λg W m c=>d g m c,rfl⟩;have I:=c1.mp G.aj;have J:(.ref f::(T++([]:List ao))).length=v+1:=by rw[dA,bR,<-r.length,bi]
   rw[bR]at J ⊢;refine⟨J,.aS ae [] []::E,f::bB,.im .aX,u::cj,cl,I.1,bn,λs P R1 ch cw cp e=>?_⟩;let⟨cw,rfl⟩:=cw;let⟨W,W,co,f0,cr,c_,cs,rfl⟩:=cp;cases cr;rw[iC]at e;have y:∀D∈Sp,fp Sf D:=λD a=>by
    let⟨SG,db,y,ds⟩:=x.chg D a;exact⟨SG,d D SG db,y,ds⟩
   have dL:=G.trans (R1:=Sp) e y;have eq:bc P Sv w Sp:=(x.mono d.tupS λg W m c=>d g m c).mono e.tup λg h m c=>e.keep g m c λC=>I.2.2 g C g h rfl;let⟨ev,ex,fn,R⟩:=rk eq r cs;refine⟨cw,q (.ref f) P ev co fn c_<|dL.less (ae:=ex) ?_⟩;rw[lM]at R ⊢;intro D;have:=R D;simp only[nh] at *;omega
  ·cases p
 ·cases A
end
def HN:bI->List bI
 |.ClassDef _ _ _ e _ _ _ _ _ _ _=>e
 |_=>[]
def lx(Y:bI)(r:Nat):bI:=((HN Y).getD r (.Pass ⟨0,0,0,0⟩))
def hn(b:Prop)(Q:Φ)(f D:au)(Y:bI)(F:ag):Prop:=(∃fd,ft Q f D Y F fd/\b)
def i2(b:Prop)(Q:Φ)(f D:au)(Y:bI)(F:ag)(RY:List au):Prop:=(∃fd,ft Q f D Y F fd/\fG Q fd RY []/\b)
def fS(b:Prop)(R4:bp)(H:a7)(Q:Φ)(aE:au->Option ab)(R7:aV)(n:Nat)(f D:au)(Y:bI)(F:ag)(RY:List au)(v:Nat)(R2:cX):Prop:=(∃fd,ft Q f D Y F fd/\fG Q fd RY []/\b/\fM R4 H Q aE R7 gk n F fd RY (ib v R2))
def Gk{b:Prop}{Y:bI}{bW z Sr P bQ:ab}(C:b)(J:Q.lookup F=Z ⟨Tg,Tb,.func<|Ψ f D (gi Y) (e5 Y) (dn Y) .none bW z Sr S0 P bQ,Tr⟩)(p:Φa Q P D=aa)(n:Δ Q (.ref F)=aa):hn b Q f D Y F:=⟨_,GD J p n,C⟩
section
variable{b:Prop}{R4:bp}{H:a7}{Q:Φ}{aE:au->Option ab}{R7:aV}{n v:Nat}{f D:au}{Y:bI}{F:ag}{RY:List au}{R2:cX}
def hn.bA(u:hn b Q f D Y F)(c:∀(bW z Sr:ab) (S0:Option ag) (P bQ g:ab),jD (Ψ f D (gi Y) (e5 Y) (dn Y) .none bW z Sr S0 P bQ) ⟨[g],[]⟩=pure (RY.zip [g]):=by intros;rfl)(d:RY.length=1:=by rfl):i2 b Q f D Y F RY:=
 have ⟨_,a,g⟩:=u
 ⟨_,a,a.Fn c d,g⟩
def hn.lB(u:hn b Q f D Y F)(c:∀(bW z Sr:ab) (S0:Option ag) (P bQ g e p x:ab),jD (Ψ f D (gi Y) (e5 Y) (dn Y) .none bW z Sr S0 P bQ) ⟨[g,e,p,x],[]⟩=pure (RY.zip [g,e,p,x]):=by intros;rfl)(d:RY.length=4:=by rfl):i2 b Q f D Y F RY:=
 have ⟨_,a,g⟩:=u
 ⟨_,a,a.KO c d,g⟩
def lV{L:bF}(Si:List au)(N:i2 b Q f D Y F RY)(d:Si.Nodup->∀(P:ab) (O:bf) (SS:List ee) (h:ah) (j:ax) (RW:fh),dd n (O.deeper<|h5 D (dn Y) h.heap.objs.size F P)->hM (j9 gk R4 H Q aE R7 Si D (dn Y) F P O SS h j RW).l8 Sy (e5 Y) L)(Se:lT Si RY (dn Y):=by exact F5)(g:RY.length=v:=by rfl)(k:∀a∈Sy,a<v:=by decide):fS b R4 H Q aE R7 (n+1) f D Y F RY v (dy v Si.length Sy L):=
 have ⟨_,c,e,i⟩:=N
 ⟨_,c,e,i,E_ c Se g k<|d Se.aj⟩
end
section
variable{b:aJ}
def jq{i:au}{Y:bI}(p:gx b.K ae)(d:fS (dG b.K ae i F) b.prog b.w b.K b.aE b.base n i D Y F RY 1 R2)(f:dd l b.A)(g:bH b m (hF a))(h:n<=l:=by decide)(bL:bK (.Call (.Attribute m i Tn) [] [] Sd) b.env=(do
   let c <-bK m b.env
   standAt Tn.atName
   let (F,first) <-holding [c] (rf c i a5)
   callWith Sd F first (ez Sd<|bC [] b.env) (pT Sd<|q_ [] b.env)):=by rfl):cF b (.Call (.Attribute m i Tn) [] [] Sd) (dY ae a i R2):=
 have ⟨_,_,e,C,N⟩:=d
 KZ (a5:=a5) g p C N f e h bL
def Pa{Y:bI}{C:au}(a:fS (k9 b.K ae F) b.prog b.w b.K b.aE b.base n D C Y F RY (v+1) R2)(d:dd l b.A)(g:ep b f)(h:b.aE f=Z (.ref ae))(i:fw b (c::U) L)(j:n+1<=l:=by decide)(k:(f==("__debug__" : au))=ay:=by decide)(m:bC (c::U) b.env=(ay,bK c b.env)::bC U b.env:=by rfl)(p:(ez Sd<|bC U b.env).any (·.1)=ay:=by rfl):cF b (.Call (.Name f o) (c::U) [] Sd) (pa ae R2 v L):=
 have ⟨_,_,e,q,N⟩:=a
 Ri q N d g h e i j k m p
end
variable{Q:Φ}{ae F:ag}{i f D:au}{Y:bI}{Tg:ab}{Tb S0:Option ag}{Tr:Array (Option ab)}{bW z Sr P bQ:ab}
def t7(g:Θ Q (.ref ae) i=Z (Z<|.ref F))(e:Φb Q (.ref F)=aa)(n:Δ Q (.ref F)=aa)(J:Q.lookup F=Z ⟨Tg,Tb,.func<|Ψ f D (gi Y) (e5 Y) (dn Y) .none bW z Sr S0 P bQ,Tr⟩)(p:Φa Q P D=aa):hn (dG Q ae i F) Q f D Y F:=Gk ⟨g,e,n⟩ J p n
def BO(g:Θ Q (.ref ae) "__init__" = Z (Z<|.ref F))(e:Φb Q (.ref F)=aa)(n:Δ Q (.ref F)=aa)(J:Q.lookup F=Z ⟨Tg,Tb,.func<|Ψ f D (gi Y) (e5 Y) (dn Y) .none bW z Sr S0 P bQ,Tr⟩)(p:Φa Q P D=aa)(mk:Φh Q ae=aa)(a:Δ Q (.ref ae)=aa):hn (k9 Q ae F) Q f D Y F:=Gk ⟨mk,g,e,a⟩ J p n
def noA(d:Θ Q (.ref ae) i=Z V):eE Q ae i:=d
end L2
namespace L2
variable{g d L e:bF}{c:aA ai}{own i v:Nat}{E:List ai}{Sy:List Nat}{m:Option (Nat×ai)}{z:List X}{x:ai}{R_ k:aW}{p:aA Bool}{Sz:eF}{Sj:Type}{r a:Int}
@[simp] theorem Rx(x:X)(k:aW):aF x k=Z (.im x,k):=rfl
@[simp] theorem rb(k:aW):aH k=Z ([],k):=rfl
@[simp] theorem RD(k:aW):hT k=Z (.aL,k):=rfl
@[simp] theorem RJ(k:aW):ma k=Z (V,k):=rfl
@[simp] theorem RP(k:aW):ot k=Z (aa,k):=rfl
@[simp] theorem RQ(x:X):(ai.im x).eJ=aa:=rfl
@[simp] theorem RN(x:List X):(ai.cv x).eJ=aa:=rfl
@[simp] theorem RS(x:List X):(ai.lst x).eJ=ay:=rfl
@[simp] theorem RH(x:List (List X×X)):(ai.aO x).eJ=ay:=rfl
@[simp] theorem RF(x:List (dX×X)):(ai.dN x).eJ=ay:=rfl
@[simp] theorem DY(k:aW)(x:ai):du k (.cU x)=Z x:=rfl
@[simp] theorem x4(k:aW)(a:Nat):du k (.bJ a)=(k[a]?).getD V:=rfl
@[simp] theorem rz(k:aW):ht k []=Z []:=rfl
@[simp] theorem qU(k:aW)(m:bz)(M:List bz):ht k (m::M)=(du k m).bind λx=>(ht k M).map λE=>x::E:=rfl
@[simp] theorem RR(k:aW):d2 [] k=Z ([],k):=rfl
@[simp] theorem RK(x:ai)(M:List bz)(k:aW):d2 (.cU x::M) k=(d2 M k).map λo=>(x::o.1,o.2):=rfl
@[simp] theorem Ru(a:Nat)(M:List bz)(k:aW):d2 (.bJ a::M) k=(fF a k).bind λo=>(d2 M o.2).map λq=>(o.1::q.1,q.2):=rfl
@[simp] theorem Rt:fV []=Z []:=rfl
@[simp] theorem Rp(x:X)(E:List ai):fV (.im x::E)=(fV E).map λu=>x::u:=rfl
@[simp] theorem Ry(e:Bool):jN (.im<|.aN e)=Z e:=rfl
def mF(t : -(2^64)<r)(A:r<2^64):gA a r=aa:=by
 have:bq.Int.intBits r<=64:=zQ t A;have RU:¬ (bq.Int.intBits r>uk):=oI.mpr this;unfold gA;rw[eX RU];simp
def Kr(t : -(2^64)<a)(A:a<2^64):gA a r=aa:=by
 have:bq.Int.intBits a<=64:=zQ t A;have RU:¬ (bq.Int.intBits a>uk):=oI.mpr this;unfold gA;rw[eX RU];simp
def DP{z:List Sj}{x:Sj}(b:0<=a)(d:z[a.toNat]?=Z x):dQ z a=Z x:=by
 unfold dQ ji;have RT:a.toNat<z.length:=(e4.mp d).1;rw[aD b,aD ⋯];exact d
def MN{z:List Sj}{x:Sj}(d:z.getLast?=Z x):dQ z (-1)=Z x:=by
 rw[List.getLast?_eq_getElem?]at d;have RT:z.length-1<z.length:=(e4.mp d).1;unfold dQ ji;rw[aG ∅,aD ⋯];show z[(-1+(z.length:Int)).toNat]?=Z x;rw[show (-1+(z.length:Int)).toNat=z.length-1 by lia];exact d
def PH(l:Nat->aW->Prop)(R1:ai->aW->Prop):∀{z:List X}{k:aW},l 0 k->
  (∀(a:Nat) (f:X) (k:aW),z[a]?=Z f->l a k->∃R_ aT Sv,Sz (.im f) k=Z R_/\e R_=Z (aT,Sv)/\(((aT=.aL\/aT=.bQ)/\l (a+1) Sv)\/∃x,aT=.dP x/\R1 x Sv))->
  (∃Sl,eQ Sz e z k=Z (.aL,Sl)/\l z.length Sl)\/∃x Sl,eQ Sz e z k=Z (.dP x,Sl)/\R1 x Sl:=by
 intro z;induction z generalizing l with
 |nil=>intro k b W;exact .inl ⟨k,rfl,b⟩
 |cons f u g=>
  intro k b d;let⟨R_,aT,@Sv,t,A,h⟩:=d 0 f k rfl b;rcases h with ⟨i,j⟩|⟨x,rfl,m⟩
  ·have:=g (λa=>l<|a+1) (k:=Sv) j λa D Sl n o=>d (a+1) D Sl ⇑n o;have c:eQ Sz e (f::u) k=eQ Sz e u Sv:=by
    rw[eQ];dsimp only;rw[t];show (e R_).bind _=_;rw[A];rcases i with rfl|rfl<;>rfl
   rw[c];exact this
  ·refine .inr ⟨x,Sv,?_,m⟩;rw[eQ];dsimp only;rw[t];show (e R_).bind _=_;rw[A];rfl
def rK(l:Nat->aW->Prop){z:List X}{k:aW}(b:l 0 k)(d:∀(a:Nat) (f:X) (k:aW),z[a]?=Z f->l a k->∃R_ aT Sv,Sz (.im f) k=Z R_/\e R_=Z (aT,Sv)/\(aT=.aL\/aT=.bQ)/\l (a+1) Sv):
  ∃Sl,eQ Sz e z k=Z (.aL,Sl)/\l z.length Sl:=by
 rcases PH l (λ_ W=>False) b (λa f k c g=>by
  let⟨R_,aT,@Sv,t,A,h,i⟩:=d a f k c g;exact⟨R_,aT,Sv,t,A,.inl ⟨h,i⟩⟩) with d|⟨_,_,_,d⟩
 ·exact d
 ·exact d.elim
def Pe(l:Nat->aW->Prop)(b:aW->Prop)(step:∀i k,l i k->∃y R_,p k=Z (y,R_)/\(y=aa->∃aT Sv,e R_=Z (aT,Sv)/\(aT=.aL\/aT=.bQ)/\∃a,a<i/\l a Sv)/\(y=ay->b R_)):
  ∀(v i:Nat) (k:aW),l i k->i<v->∃Sl,kM p e v k=Z (.aL,Sl)/\b Sl:=by
 intro v;induction v with
 |zero=>intro i k W d;lia
 |succ v c=>
  intro i k f o;let⟨y,@R_,t,A,g⟩:=step i k f;rw[kM];dsimp only;rw[t];cases y with
  |false=>exact⟨R_,rfl,g rfl⟩
  |true=>
   let⟨aT,@Sv,h,hf,⟨@a,q,j⟩⟩:=A rfl;let⟨@Sl,m,n⟩:=c a Sv j ⋯;refine⟨Sl,?_,n⟩;simp only[gg,ia,h];rcases hf with rfl|rfl<;>exact m
def K1(z:List Sj):z.filter (λ_=>aa)=z:=List.filter_eq_self.mpr λ_ W=>rfl
def dB(c:L k=Z (.aL,R_)):b1 L d k=d R_:=by unfold b1;rw[c];rfl
def Ks(c:L k=Z (.dP x,R_)):b1 L d k=Z (.dP x,R_):=by unfold b1;rw[c];rfl
def oL{L:hq}{Sv:aW}{aT:nQ}(c:L k=Z ((z,m),R_))(d:eQ Sz e z R_=Z (aT,Sv)):gz L Sz e k=Z (aT,kE m Sv):=by
 unfold gz;rw[c];show (eQ Sz e z R_).map _=_;rw[d];rfl
def Qt{u:ai}(a:E.length=v)(c:L (E.map Z++List.replicate (i-v) V)=Z (.dP u,k)):dy v i Sy L E=Z (u,ix Sy E k 0):=by
 unfold dy;rw[aD a,c]
def uW{SF:List Nat}{G:hq}{a:aW}{E:List X}(t:G k=Z ((z,m),R_))(A:g0 own Sz p c z [] (jf SF R_)=Z (E,a)):gK own SF G Sz p c k=Z (.lst E,kE m<|ha SF a R_):=by
 unfold gK;rw[t];show (g0 own Sz p c z []<|jf SF R_).map _=_;rw[A];rfl
def fB{L:aA ai}(c:L k=Z (x,R_)):dk L k=Z (.dP x,R_):=by unfold dk;rw[c];rfl
def EX{a:Nat}{L:aA ai}(c:L k=Z (x,R_))(d:a<R_.length):cy a L k=Z (.aL,R_.set a<|Z x):=by unfold cy;rw[c];show (if a<R_.length then _ else _)=_;rw[aD d]
def wa(c:p k=Z (aa,R_)):fN p g e k=g R_:=by unfold fN;rw[c];rfl
def t6(c:p k=Z (ay,R_)):fN p g e k=e R_:=by unfold fN;rw[c];rfl
def j0(k:aW){u:ai}{cj:List ai}(a:E.length=v)(c:L (E.map Z++List.replicate (i-v) V)=Z (.dP u,k))(b:ix Sy E k 0=cj):dy v i Sy L E=Z (u,cj):=by
 rw[Qt a c,b]
theorem oC{Sj:Type}{own:Nat}{Sz:eF}{p:aA Bool}{c:aA ai}{ae:aW}(b:Sj->X)(o:Sj->Bool)(F:Sj->X):∀(z:List Sj) (a:List X),(∀f∈z,∃R_ Sv,Sz (.im<|b f) (List.replicate own V++ae)=Z R_/\p R_=Z (o f,Sv)/\(o f=ay->Sv.drop own=ae)/\(o f=aa->∃l,c Sv=Z (.im<|F f,l)/\l.drop own=ae))->
  a.length+z.length<=100000->g0 own Sz p c (z.map b) a ae=Z (a++(z.filter o).map F,ae)
 |[],a,_,_=>by simp[g0]
 |f::u,a,d,h=>by
  let⟨R_,@Sv,t,A,i,j⟩:=d f (.head _);rw[dA]at h;rw[bY,g0,t];show (p R_).bind _=_;rw[A];show (if o f=aa then _ else _)=_;cases e:o f with
  |false=>
   rw[aG c4];show g0 own Sz p c (u.map b) a (Sv.drop own)=_;rw[i e,oC b o F u a (λD g=>d D<|.tail _ g) ⋯,Dc,e];rfl
  |true=>
   let⟨@l,k,m⟩:=j e;rw[aD rfl];show (c Sv).bind _=_;rw[k];show (if a.length<100000 then g0 own Sz p c (u.map b) (a++[F f]) (l.drop own) else V)=_;rw[aD ⋯,m,oC b o F u (a++[F f]) (λD g=>d D<|.tail _ g) (by rw[d4,mD];lia),Dc,e];simp
def Mv{ae:aW}(a:Sj->X)(F:Sj->X)(z:List Sj)(d:∀f∈z,∃R_ Sv l,Sz (.im<|a f) (List.replicate own V++ae)=Z R_/\p R_=Z (aa,Sv)/\c Sv=Z (.im<|F f,l)/\l.drop own=ae)(h:z.length<=100000):g0 own Sz p c (z.map a) [] ae=Z (z.map F,ae):=by
 have:=oC (own:=own) (Sz:=Sz) (p:=p) (c:=c) (ae:=ae) a (λ_=>aa) F z [] (λf b=>by
  let⟨R_,Sv,@l,t,A,e,g⟩:=d f b;exact⟨R_,Sv,t,A,(λC=>by cases C),(λ_=>⟨l,e,g⟩)⟩) (by rw[u0];lia)
 rw[K1]at this;exact this
def Pz{SX:Type}(F:Sj->SX)(z:List Sj)(P RT:Option Int):iO (z.map F) P RT=(iO z P RT).map F:=by
 unfold iO;rw[bt,iB,iV]
end L2
namespace G
open L2
abbrev aQ(a:Int):ai:=.im (.int a)
end G
namespace L2
open Spec PyProof.Rows PySem.W
variable{s I:ab}{O:bf}{h:ah}
def Q_:String->bq:=((⟨_,rfl⟩:{F:String->bq // F "max" = bq.«max» }).1)
def Mx:String->kv->bq:=((⟨_,rfl⟩:{F:String->kv->bq // F "max" .Gt=bq.«max.loop» }).1)
section
variable{R3:bp}{H:a7}{O:bf}{RW:ab->ah->Prop}{h:ah}
def zq{l j:String}{SJ:kv}(k:(toString l++toString ".loop" : String)=j)(T:builtinKind l=V)(U:plainId l=aa)(al:nX pM l=Z (Q_ l))(am:∀g e:ab,pZ l ⟨[g,e],[]⟩)(a:plainId j=aa)(r:nX pM j=Z (Mx l SJ)){g e:ab}{n:Bool}{B:ab->ah->Prop}(an:O.handled=V)(ap:∀RV:ah,(∀p m,h.heap.get? p=Z m->RV.heap.get? p=Z m)->∀(B:ab->ah->Prop) (RW:ab->ah->Prop),B (.bool n) RV->wpAny (aM R3 H) O.in1 (nB SJ e g) B RW RV)(d:∀RU SD,(∀p m,h.heap.get? p=Z m->RU.get? p=Z m)->B (if n=aa then e else g) {h with heap:=RU,toks:=SD}):wpAny (aM R3 H) O (call (.builtin l) [g,e]) B RW h:=by
 refine call_function_tree T U al (am _ _) ?_;show wpAny _ O.in1 (bq.Builtins.bindParams l ["key","default"] 0 ⟨[],[]⟩ >>= _) _ _ h;refine aw (tw (show bq.Builtins.bindParams l ["key","default"] 0 ⟨[],[]⟩=pure [V,V] from rfl) ?_);show wpAny _ O.in1 (wF [g,e] >>= _) _ _ h;refine aw (gp ?_);have D:(h.heap.push {cls:=.type "tuple",data:=.seq #[g,e]}).IsTuple h.heap.objs.size #[g,e]:=⟨_,dh _ rfl,rfl,0,rfl⟩;refine aw (Gi D<|aw<|gp ?_);have o:(h.heap.push {cls:=.type "tuple",data:=.seq #[g,e]}).objs.size=h.heap.objs.size+1:=iF ..;have W:=jx.tuple (prog:=R3) (w:=H) (A:=O.in1) an (h.heap.push {cls:=.type "tuple",data:=.seq #[g,e]}).objs.size h.heap.objs.size (by rw[o];exact cR (k6 _)) #[g,e];rw[k];refine aR ⟨jl a _,?_⟩;have u:((h.heap.push {cls:=.type "tuple",data:=.seq #[g,e]}).push {cls:=.type "tuple_iterator",data:=.fields #[.ref h.heap.objs.size,.int 0 0]}).IsTupleIter (h.heap.push {cls:=.type "tuple",data:=.seq #[g,e]}).objs.size h.heap.objs.size 0:=⟨_,dh _ rfl,rfl,rfl⟩;have E:=D.push {cls:=.type "tuple_iterator",data:=.fields #[.ref h.heap.objs.size,.int 0 0]};have v:((h.heap.push {cls:=.type "tuple",data:=.seq #[g,e]}).push {cls:=.type "tuple_iterator",data:=.fields #[.ref h.heap.objs.size,.int 0 0]}).objs.size=h.heap.objs.size+2:=by rw[iF,o]
 have cL:∀p m,h.heap.get? p=Z m->((h.heap.push {cls:=.type "tuple",data:=.seq #[g,e]}).push {cls:=.type "tuple_iterator",data:=.fields #[.ref h.heap.objs.size,.int 0 0]}).get? p=Z m:=λp m c=>cg _ (cg _ c);rw[o]at W u;rw[o,v];generalize ca:((h.heap.push {cls:=.type "tuple",data:=.seq #[g,e]}).push {cls:=.type "tuple_iterator",data:=.fields #[.ref h.heap.objs.size,.int 0 0]})=g2 at u E v cL ⊢;have F:(g2.push {cls:=.type "list",data:=.seq ([]:List ab).toArray}).get? (h.heap.objs.size+2)=Z {cls:=.type "list",data:=.seq ([]:List ab).toArray}:=by rw[<-v];exact dh _ rfl
 have w:h.heap.objs.size+2∉[h.heap.objs.size+1]:=by simp
 have G:∀p∈[h.heap.objs.size+1,h.heap.objs.size],h.heap.objs.size+2≠p:=λp b C=>by
  simp only[cc,List.mem_nil_iff,hz]at b;rcases b with c|c
  ·rw[c]at C;exact absurd C (kD<|k6 _)
  ·rw[c]at C;exact absurd C (kD (AJ ∅))
 have f:∀p m,h.heap.get? p=Z m->p∉[h.heap.objs.size+1]/\p≠h.heap.objs.size+2:=λp m c=>by
  have lt:=ck c;refine⟨λC=>?_,cR<|ef lt<|uU _ _⟩;rw[cm.mp C]at lt;exact ij _ (Nat.lt_of_succ_lt lt)
 have I:∀(RU:aV) (SD:Nat) (i:ab) (J:Nat),(∀p m,h.heap.get? p=Z m->RU.get? p=Z m)->RU.get? (h.heap.objs.size+2)=Z {cls:=.type "list",dict:=V,data:=.seq #[i,i] J,slots:=#[]}->
   RU.IsTupleIter (h.heap.objs.size+1) h.heap.objs.size 2/\RU.IsTuple h.heap.objs.size #[g,e]->i=(if n=aa then e else g)->
   codeAny (aM R3 H) O (.builtin j ⟨[.ref (h.heap.objs.size+1),.none,.ref<|h.heap.objs.size+2],[]⟩) (wants B RW) {h with heap:=RU,toks:=SD}:=by
  intro RU SD i J q L Y as;refine jw r ?_;rw[ke a _];show wpAny _ O.in1 (oJ (.ref<|h.heap.objs.size+2) >>= _) _ _ _;refine aw (k0 (s:={h with heap:=RU,toks:=SD}) L rfl ?_);show wpAny _ O.in1 (tryCatch (fz<|.ref<|h.heap.objs.size+1) _ >>= _) _ _ _;refine aw (pO<|W.done {h with heap:=RU,toks:=SD} _ _ Y λA a1 d0=>?_);have a2:=d0 _ _ w L;show wpAny _ O.in1 (tn (h.heap.objs.size+2) (λ_=>#[]) >>= _) _ _ _;refine aw (qh a2 rfl<|aw<|sT<|aR ?_);show B i _;rw[as];exact d _ a1 λp m c=>(hP _ _<|eH (f p m c).2).trans (d0 p m (f p m c).1 (q p m c))
 refine jw r ?_;rw[ke a _];show wpAny _ O.in1 (oJ (.ref<|h.heap.objs.size+2) >>= _) _ _ _;refine aw (k0 (s:={h with heap:=g2.push {cls:=.type "list",data:=.seq ([]:List ab).toArray} }) F rfl ?_);show wpAny _ O.in1 (tryCatch (fz<|.ref<|h.heap.objs.size+1) _ >>= _) _ _ _;refine aw (pO (W.item 0 {h with heap:=g2.push {cls:=.type "list",data:=.seq ([]:List ab).toArray} } _ _ ↥0 ⟨let ⟨m,bd,be⟩:=u;⟨m,cg _ bd,be⟩,E.push _⟩ λs t cd x bi q=>?_));cases x;have M:=q _ _ w F;show wpAny _ O.in1 (tn (h.heap.objs.size+2) (λ_=>#[g,g]) >>= _) _ _ _;refine aw (qh M rfl ?_);rw[k];refine aR ⟨jl a _,jw r ?_⟩;have N:=ml (a3.mapSeq<|λ_=>(#[g,g]:Array ab)) M rfl;have bm:=W.frame _ _ (t.update (h.heap.objs.size+2)<|a3.mapSeq<|λ_=>(#[g,g]:Array ab)) bi λp b m c=>(hP _ _<|G p b).trans c;have bn:∀p m,h.heap.get? p=Z m->(t.update (h.heap.objs.size+2)<|a3.mapSeq<|λ_=>(#[g,g]:Array ab)).get? p=Z m:=λp m c=>(hP _ _<|eH (f p m c).2).trans (q p m (f p m c).1 (cg _<|cL p m c));rw[ke a _];show wpAny _ O.in1 (oJ (.ref<|h.heap.objs.size+2) >>= _) _ _ _;refine aw (k0 N rfl ?_);show wpAny _ O.in1 (tryCatch (fz<|.ref<|h.heap.objs.size+1) _ >>= _) _ _ _;refine aw (pO (W.item 1 _ _ _ ↥0 bm λs bs P x Q R=>?_));cases x;have y:=R _ _ w N;have z:∀p m,h.heap.get? p=Z m->bs.get? p=Z m:=λp m c=>R p m (f p m c).1 (bn p m c);show wpAny _ O.in1 (tryCatch (holding [e,e]<|nB SJ e g >>= _) _ >>= _) _ _ _;refine aw (pO<|fU<|aw<|ap _ z _ _ ?_);refine aw (fU<|sd ?_);refine aw (sT<|aR ?_);cases S:n with
 |true=>
  simp only[ia];refine aw (qh y rfl<|aw<|sT ?_);rw[k];have bv:=ml (a3.mapSeq<|λ_=>(#[e,e]:Array ab)) y rfl;refine aR ⟨jl a _,I _ P e _ (λp m c=>(hP _ _<|eH (f p m c).2).trans<|z p m c) bv (W.frame _ _ _ Q λp b m c=>(hP _ _<|G p b).trans c) (by rw[S];rfl)⟩
 |false=>
  simp only[gE,fl];refine aw (sT ?_);rw[k];exact aR ⟨jl a _,I _ P g _ z y Q (by rw[S];rfl)⟩
end
section
variable{R3:bp}{H:a7}{O:bf}{RW:ab->ah->Prop}{h:ah}{g e:ab}{n:Bool}{B:ab->ah->Prop}
def Hy(a:O.handled=V)(b:∀RV:ah,(∀p m,h.heap.get? p=Z m->RV.heap.get? p=Z m)->∀(B:ab->ah->Prop) (RW:ab->ah->Prop),B (.bool n) RV->wpAny (aM R3 H) O.in1 (nB .Gt e g) B RW RV)(d:∀RU SD,(∀p m,h.heap.get? p=Z m->RU.get? p=Z m)->B (if n=aa then e else g) {h with heap:=RU,toks:=SD}):wpAny (aM R3 H) O (call (.builtin "max") [g,e]) B RW h:=
 zq ∅ F.kind_max F.plain_max F.entry_max F.args_max2 F.plain_max_loop F.entry_max_loop a b d
def MM(a:O.handled=V)(b:∀RV:ah,(∀p m,h.heap.get? p=Z m->RV.heap.get? p=Z m)->∀(B:ab->ah->Prop) (RW:ab->ah->Prop),B (.bool n) RV->wpAny (aM R3 H) O.in1 (nB .Lt e g) B RW RV)(d:∀RU SD,(∀p m,h.heap.get? p=Z m->RU.get? p=Z m)->B (if n=aa then e else g) {h with heap:=RU,toks:=SD}):wpAny (aM R3 H) O (call (.builtin "min") [g,e]) B RW h:=
 zq ∅ F.kind_min F.plain_min F.entry_min F.args_min2 F.plain_min_loop F.entry_min_loop a b d
end
def ud(O:bf)(h:ah)(D f:ab)(n:Bool):Prop:=(∀(R3:bp) (H:a7) (RW:ab->ah->Prop) (B:ab->ah->Prop),B (.bool n) h->wpAny (aM R3 H) O (nB .Gt D f) B RW h)
section
open PySem.SeqAt
open PySem.AutoSeq1 (wpAny_loadPart')
open PySem.MeetsSeq PySem.MeetsSeq2 PySem.MeetsSeq3
def Kw(J e:ag)(Sm b:Array ab)(v S8:Nat)(w y:Option ag)(bJ z:Array (Option ab))(RY:List (Bool×Bool))(Q:RY.length=min Sm.size b.size):
  Meets (bq.«tuple.__gt__» ⟨[.ref J,.ref e],[]⟩)
   (λO R1 h=>h.heap.get? J=Z {cls:=.type "tuple",dict:=w,data:=.seq Sm v,slots:=bJ}/\h.heap.get? e=Z {cls:=.type "tuple",dict:=y,data:=.seq b S8,slots:=z}/\
    (∀r (t:r<Sm.size) (A:r<b.size) (l:r<RY.length),EqAt O.in1 h Sm[r] b[r] (RY[r]).1/\((RY[r]).1=ay->ud O.in1 h Sm[r] b[r] (RY[r]).2))/\
    R1 (.ok<|.ret<|.bool<|g5 (decide (b.size<Sm.size)) RY) h):=
 .of_wp λR3 H O R1 h d=>by
  let⟨j,L,x,SD,M⟩:=h;let@⟨B,C,E,d⟩:=d;have R:=B7;have o:(Sm.toList.zip b.toList).length=min Sm.size b.size:=by simp
  wp_walk using wpAny_loadPart' B,wpAny_loadPart' C,lR _ (λcK e RV=>e.1=V/\RV=⟨j,L,x,SD,M⟩/\∃a,cK=(Sm.toList.zip b.toList).drop a/\
   R1 (.ok<|.ret<|.bool<|g5 (decide (b.size<Sm.size))<|RY.drop a) ⟨j,L,x,SD,M⟩) _
  case turn=>
   rintro⟨D,f⟩ cK e RV ⟨m,rfl,a,g,i⟩;have p:a<(Sm.toList.zip b.toList).length:=by
    rcases gF a (Sm.toList.zip b.toList).length with RU|RU
    ·exact RU
    ·rw[nq RU]at g;cases g
   have S:a<min Sm.size b.size:=o ▸ p;have t:a<Sm.size:=⋯
   have A:a<b.size:=⋯
   have l:a<RY.length:=⋯
   rw[iK p]at g;injection g with q F;have G:D=Sm[a]:=by have:=congrArg Prod.fst q;simpa using this
   have I:f=b[a]:=by have:=congrArg Prod.snd q;simpa using this
   subst G I;rw[iK l]at i;let@⟨s,u⟩:=E a t A l;generalize RY[a]=N at i s u;let⟨c,n⟩:=N;refine aw (s R3 H _ _ ?_);cases c with
   |true=>
    have k:R1 (.ok<|.ret<|.bool<|g5 (decide (b.size<Sm.size))<|RY.drop<|a+1) ⟨j,L,x,SD,M⟩:=i
    wp_walk
    exact⟨rfl,rfl,a+1,F,k⟩
   |false=>
    have k:R1 (.ok<|.ret<|.bool n) ⟨j,L,x,SD,M⟩:=i;have P:=u rfl R3 H
    wp_walk using P
    exact⟨_,rfl,by simpa using k⟩
  case fin=>
   rintro⟨bA,b0⟩ RV ⟨m,rfl,a,g,i⟩;simp only at m;subst m;have T:min Sm.size b.size<=a:=by
    rcases gF a (Sm.toList.zip b.toList).length with RU|RU
    ·rw[iK RU]at g;cases g
    ·exact o ▸ RU
   rw[nq ⋯]at i;have k:R1 (.ok<|.ret<|.bool<|decide (b.size<Sm.size)) ⟨j,L,x,SD,M⟩:=i
   wp_walk
   exact⟨_,rfl,by simpa [bq.Tuple.tupleCompareSizes] using k⟩
  case h=>
   exact⟨rfl,rfl,0,rfl,by simpa using d⟩
end
def jG(E U:List X):List (Bool×Bool):=((E.zip U).map λo=>(b3 o.1 o.2,bh o.2 o.1))
def IA(g e:X):X.beq g e=X.beq e g:=by
 rw[iX,X.beq_iff,X.beq_iff];exact⟨λd=>d.symm,λd=>d.symm⟩
theorem FZ:∀{v:Nat}{E U:List X},fs v E U=aa->g5 (decide (U.length<E.length)) (jG E U)=fE U E
 |_,[],[],_=>rfl
 |v,g::u,e::y,d=>by
  rw[fs,cC]at d;show (if b3 g e=aa then g5 (decide (y.length+1<u.length+1)) (jG u y) else bh e g)=fE (e::y) (g::u);rw[fE,(pA d.1).2.2,<-FZ d.2,IA,vF.mpr vx]
 |_,[],_::_,_=>rfl
 |_,_::_,[],_=>rfl
def JG{a r:Int}(b:c0 h.heap (.int a) I)(c:c0 h.heap (.int r) s):ud O h I s (bh (.int r)<|.int a):=by
 let⟨@y,rfl⟩:=b;let⟨@Sw,rfl⟩:=c;intro R3 H RW B q;rw[bh]at q;exact (IK q:wpAny (aM R3 H) O (ej .Gt (.int a y)<|.int r Sw) B RW h)
def z_{f D:X}(J:vv f D)(b:c0 h.heap f I)(d:c0 h.heap D s):ud O h I s (bh D f):=by
 rcases J with ⟨a,r,rfl,rfl⟩|⟨g,e,rfl,rfl⟩
 ·exact JG b d
 ·let⟨y,rfl⟩:=b;let⟨Sw,rfl⟩:=d;intro R3 H RW B q;rw[bh]at q;exact richCompare_gives (op:=.Gt) (wO h g y) (wO h e Sw) PySem.F.slot_str_gt PySem.F.entry_str_gt (PySem.F.args_str_gt_2 _ _) (PySem.gives_str_gt g e y Sw) (λc=>nomatch c) q
def QD(v:Nat):∀{O:bf}{f D:X}{I s:ab},d3 v f D=aa->O.units+v+2<bD->c0 h.heap f I->c0 h.heap D s->ud O h I s (bh D f):=by
 induction v with
 |zero=>
  intro O f D I s d P a b;rcases mN d with J|⟨i,_,_,c,_⟩
  ·exact z_ J a b
  ·cases c
 |succ v Q=>
  intro O f D I s d P a b;rcases mN d with J|⟨i,E,U,c,rfl,rfl,d⟩
  ·exact z_ J a b
  cases c;let⟨g,m,Sa,@i,rfl,t,A,j,k⟩:=a;let⟨e,SG,M,@R,rfl,l,n,o,p⟩:=b;let⟨cls,S,data,bJ⟩:=m;let⟨a2,T,bd,al⟩:=SG;simp only at A j n o;subst A j n o;have u:E.length=Sa.size:=by rw[k.length,c6]
  have w:U.length=M.size:=by rw[p.length,c6]
  intro R3 H RW B q;rw[bh,<-FZ d,u,w]at q;have am:(jG E U).length=min Sa.size M.size:=by rw[jG,bt,Eg,u,w]
  refine FK (op:=.Gt) ⟨_,t,rfl⟩ ⟨_,l,rfl⟩ PySem.F.slot_tuple_gt PySem.F.entry_tuple_gt (PySem.F.args_tuple_gt_2 _ _) (Kw g e Sa M i R S T bJ al (jG E U) am)
   ⟨t,l,λr an ap as=>?_,show ab.bool (g5 (decide (M.size<Sa.size))<|jG E U)≠ab.notImplemented/\B (.bool<|g5 (decide (M.size<Sa.size))<|jG E U) h from ⟨(λf=>nomatch f),q⟩⟩ ⋯;let⟨@Sx,x,y⟩:=k.get (r:=r) (s:=Sa[r]) (by rw[eg];simp[an]);let⟨@SK,z,G⟩:=p.get (r:=r) (s:=M[r]) (by rw[eg];simp[ap]);have lk:=v3 d x z;have L:=pA lk;have a1:(jG E U)[r]=(b3 Sx SK,bh SK Sx):=by
   have:(jG E U)[r]?=Z (b3 Sx SK,bh SK Sx):=by
    rw[jG,dT,(tj (z:=(Sx,SK))).mpr ⟨x,z⟩];rfl
   rw[dr as]at this;exact Option.some.inj this
  rw[a1];exact⟨iw v L.1 L.2.1 (by show O.units+1+v+1<bD;lia) y G,λ_=>Q lk (by show O.units+1+v+2<bD;lia) y G⟩
section
variable{b:aJ}
def PX(f:b.calm=aa)(k:b.A.units+20<bD):e7 b (.builtin "max") (λz j B=>∃(x c:X) (s I:ao),z=[s,I]/\d3 6 c x=aa/\cq j x s/\cq j c I/\B (if bh x c=aa then I else s) j):=by
 intro G h w j z Sk B l u d;let⟨x,c,s,@I,rfl,lk,t,A,q⟩:=d;let⟨o,@p,rfl,a,e⟩:=q9 u;refine Hy (n:=bh x c) (l.ok.hd f) (λRV n B RW i=>?_) λRU SD n=>⟨if bh x c=aa then I else s,j,l.kept n,?_,q⟩
 ·exact QD 6 lk (by show b.A.units+1+6+2<bD;lia) ((A.eO l.a0 e).keep λg m W W c W W=>n g m c) ((t.eO l.a0 a).keep λg m W W c W W=>n g m c) b.prog b.w RW B i
 ·split
  ·exact e
  ·exact a
def Mk(f:b.calm=aa)(k:b.A.units+20<bD):e7 b (.builtin "min") (λz j B=>∃(x c:X) (s I:ao),z=[s,I]/\d3 6 c x=aa/\cq j x s/\cq j c I/\B (if bh c x=aa then I else s) j):=by
 intro G h w j z Sk B l u d;let⟨x,c,s,@I,rfl,lk,t,A,q⟩:=d;let⟨o,@p,rfl,a,e⟩:=q9 u;refine MM (n:=bh c x) (l.ok.hd f) (λRV n B RW i=>?_) λRU SD n=>⟨if bh c x=aa then I else s,j,l.kept n,?_,q⟩
 ·exact DL 6 lk (by show b.A.units+1+6+2<bD;lia) ((A.eO l.a0 e).keep λg m W W c W W=>n g m c) ((t.eO l.a0 a).keep λg m W W c W W=>n g m c) b.prog b.w RW B i
 ·split
  ·exact e
  ·exact a
def rR:jB:=(λE=>match E with
 |[.im (.int a),.im<|.int r]=>wZ [.im (.int a),.im<|.int r]
 |[.im (.tup g),.im<|.tup e]=>if d3 6 (.tup e) (.tup g)=aa then Z (.im<|if bh (.tup g) (.tup e)=aa then .tup e else .tup g) else V
 |_=>V)
def r0:jB:=(λE=>match E with
 |[.im (.int a),.im<|.int r]=>yt [.im (.int a),.im<|.int r]
 |[.im (.tup g),.im<|.tup e]=>if d3 6 (.tup e) (.tup g)=aa then Z (.im<|if bh (.tup e) (.tup g)=aa then .tup e else .tup g) else V
 |_=>V)
def LL(d:b.calm=aa)(k:b.A.units+20<bD):hD b (.builtin "max") rR:=by
 intro G h w j z Sk B l u m;let⟨E,@x,f,c,q⟩:=m;unfold rR at c;split at c
 ·exact Qr d G h w j z Sk B l u ⟨_,x,f,c,q⟩
 ·split at c
  ·rename_i g e lk;cases c;let⟨s,@I,rfl,t,A⟩:=BA f;refine PX d k G h w j _ Sk B l u ⟨_,_,s,I,rfl,lk,t,A,b6.i q ?_⟩;split
   ·exact A
   ·exact t
  ·cases c
 ·cases c
def Nq(d:b.calm=aa)(k:b.A.units+20<bD):hD b (.builtin "min") r0:=by
 intro G h w j z Sk B l u m;let⟨E,@x,f,c,q⟩:=m;unfold r0 at c;split at c
 ·exact Q7 d G h w j z Sk B l u ⟨_,x,f,c,q⟩
 ·split at c
  ·rename_i g e lk;cases c;let⟨s,@I,rfl,t,A⟩:=BA f;refine Mk d k G h w j _ Sk B l u ⟨_,_,s,I,rfl,lk,t,A,b6.i q ?_⟩;split
   ·exact A
   ·exact t
  ·cases c
 ·cases c
end
mutual
def tc:X->qk
 |.int a=>.int a
 |.aN e=>.bool e
 |.str f=>.str f
 |.tup E=>.tuple (p1 E)
 |_=>.none
def p1:List X->List qk
 |[]=>[]
 |x::u=>tc x::p1 u
end
mutual
theorem GP{d:aV}:∀{v:Nat}{x:X}{I:ab},X.a5 v x=aa->c0 d x I->Reads d I (tc x) []
 |_,.aX,I,_,c=>by cases (show I=.none from c);exact .none
 |_,.aN e,I,_,c=>by cases (show I=.bool e from c);exact .bool e
 |_,.int a,I,_,c=>by let⟨@y,rfl⟩:=c;exact .int a y
 |_,.str f,I,_,c=>by let⟨@y,rfl⟩:=c;exact .str f y
 |v+1,.tup E,I,n,c=>by
  let⟨g,m,Sm,@i,rfl,t,A,b,h⟩:=c;exact .tuple t A b (DV (v:=v) n h)
 |0,.tup E,I,n,c=>by cases n
 |v,.fn g,I,n,c=>by cases v<;>cases n
 |v,.aT g,I,n,c=>by cases v<;>cases n
 |v,.fd _,I,n,c=>by cases v<;>cases n
theorem DV{d:aV}:∀{v:Nat}{E:List X}{Sk:List ab},X.c5 v E=aa->dg d E Sk->ReadsAll d Sk (p1 E) []
 |_,[],Sk,_,c=>by rw[show Sk=[] from c];exact .nil
 |v,x::E,Sk,n,c=>by
  let⟨s,@u,rfl,t,A⟩:=c;rw[X.c5,cC]at n;exact .cons (GP n.1 t) (DV n.2 A)
end
mutual
theorem J4:∀x:X,qk.hasDict (tc x)=ay
 |.aX=>rfl
 |.aN _=>rfl
 |.int _=>rfl
 |.str _=>rfl
 |.fn _=>rfl
 |.aT _=>rfl
 |.fd _=>rfl
 |.tup E=>DK E
theorem DK:∀E:List X,qk.hasDictAll (p1 E)=ay
 |[]=>rfl
 |x::u=>by
  show (qk.hasDict (tc x) || PyData.hasDictAll (p1 u))=ay;rw[J4 x,DK u];rfl
end
end L2
namespace G
open L2
variable{R:List (Int×Int)}{e g:Int×Int}{d:ai}{v:Nat}
def EL:bF:=((dk<|dz<|av (af<|bX r0<|av (aq 0)<|av (aq 1) aH)<|av (af<|bX rR<|av (aq 0)<|av (aq 1) aH) aH))
def qC:cX:=(dy 2 2 [0,1] EL)
def pD:bF:=((cy 2<|az fg (af<|az dv (af<|az dv (af<|az h2 (aq 2)<|af<|aF<|.int 69621)<|af<|az fg (aq 3)<|af<|aF<|.int 2147483587)<|af<|aF<|.int 13)<|af<|aF<|.int 2305843009213693951))
def F7:bF:=((b1 (cy 2<|az dv (af<|aF<|.int 7)<|af<|az h2 (af<|aF<|.int 7919)<|aq 1)<|b1 (gz (eP<|af<|kW (aq 0) ma<|mH<|aF<|.int 63) (cz 3) G.pD)<|b1 (cy 3<|k5 (bS<|az pU (af<|bX dw<|av (aq 0) aH)<|af<|aF<|.int 0) (az bo (aq 0)<|af<|az fg (aq 1)<|af<|bX dw<|av (aq 0) aH)<|aF<|.int 0)<|b1 (cy 4<|az h2 (af<|az h2 (af<|az qK (af<|aF<|.int 10)<|af<|aF<|.int 60)<|af<|az qK (af<|aF<|.int 10)<|af<|aF<|.int 60)<|af<|az qK (af<|aF<|.int 10)<|af<|aF<|.int 60)<|dk<|fO<|av (af<|az h2 (af<|az fg (aq 3)<|aq 4)<|af<|bX vInt<|av (af<|az ry (aq 3)<|af<|az qK (af<|aF<|.int 10)<|af<|aF<|.int 18) aH)<|av (aq 2)<|av (af<|aF<|.int 0) aH))
def nk:cX:=(dy 2 5 [0,1] F7)
def xW:bF:=((b1 (fN (bS<|az pU (af<|az bo (aq 0)<|af<|aF<|.int 0)<|af<|aF<|.int 0) (b1 (cy 2<|az fg (af<|az bo (aq 0)<|af<|aF<|.int 0)<|aq 1)<|b1 (iS (az u5 (af<|az bo (aq 0)<|af<|aF<|.int 0)<|aq 1)<|m6 0 (aF<|.int 0) o2)<|dk<|fF 2) hT)<|b1 (iS (az dv (af<|az bo (aq 0)<|af<|aF<|.int 2)<|af<|aF<|.int 1)<|m6 0 (aF<|.int 2) o2)<|b1 (cy 3<|az fg (af<|az h2 (af<|az dv (af<|az bo (aq 0)<|af<|aF<|.int 1)<|af<|az h2 (af<|az bo (aq 0)<|af<|aF<|.int 2)<|af<|aF<|.int 104729)<|af<|aF<|.int 48271)<|af<|aF<|.int 2305843009213693951)<|b1 (iS (az fg (af<|az h2 (aq 3)<|af<|az dv (af<|az fg (aq 3)<|af<|aF<|.int 1009)<|af<|aF<|.int 69621)<|af<|aF<|.int 2305843009213693951)<|m6 0 (aF<|.int 1) o2)<|dk<|az fg (af<|az u5 (af<|az bo (aq 0)<|af<|aF<|.int 1)<|af<|aF<|.int 1000003)<|aq 1))
def ek:cX:=(dy 2 4 [0,1] xW)
def PL:bF:=((dk<|fO<|av (af<|dz<|av (af<|az hi (af<|az bo (aq 0)<|af<|aF<|.int 0)<|af<|aF<|.int 1)<|av (af<|az bo (aq 0)<|af<|aF<|.int 1) aH)<|av (af<|dz<|av (af<|az bo (aq 0)<|af<|aF<|.int 0)<|av (af<|az hi (af<|az bo (aq 0)<|af<|aF<|.int 1)<|af<|aF<|.int 1) aH)<|av (af<|dz<|av (af<|az bo (aq 0)<|af<|aF<|.int 0)<|av (af<|az dv (af<|az bo (aq 0)<|af<|aF<|.int 1)<|af<|aF<|.int 1) aH)<|av (af<|dz<|av (af<|az dv (af<|az bo (aq 0)<|af<|aF<|.int 0)<|af<|aF<|.int 1)<|av (af<|az bo (aq 0)<|af<|aF<|.int 1) aH) aH))
def NT:cX:=(dy 1 1 [0] PL)
def J5:bF:=((b1 (cy 4<|az bo (af<|bV 1 G.NT<|av (af<|az bo (aq 2)<|af<|bV 2 G.ek<|av (aq 0)<|av (af<|bX dw<|av (aq 2) aH) aH) aH)<|af<|bV 2 G.ek<|av (aq 0)<|av (af<|aF<|.int 4) aH)<|fN (gZ (bS<|az mm (aq 4)<|aq 2)<|gZ (bS<|iA fZ fZ (af<|aF<|.int 0) (af<|az bo (aq 4)<|af<|aF<|.int 0)<|af<|aF<|.int 24)<|bS<|iA fZ fZ (af<|aF<|.int 0) (af<|az bo (aq 4)<|af<|aF<|.int 1)<|af<|aF<|.int 24) (iM<|gI iD 2 hI<|av (aq 4) aH) hT))
def HD:bF:=((b1 (cy 2<|fO<|av (af<|dz<|av (af<|aF<|.int 12)<|av (af<|aF<|.int 12) aH) aH)<|b1 (gz (jr<|av (af<|bV 2 G.ek<|av (aq 0)<|av (aq 1) aH) aH) (cz 3) G.J5)<|dk<|fF 2))
def Kp:cX:=(dy 2 5 [0,1] HD)
def O8:bF:=((iM<|gI iD 5 oq<|av (af<|bV 2 G.ek<|av (aq 0)<|av (af<|bX dw<|av (aq 5) aH) aH) aH))
def I7:aA ai:=((fF 0))
def Ky:aA Bool:=((bS<|az iH (af<|az h2 (af<|az fg (af<|az bo (aq 0)<|af<|aF<|.int 0)<|af<|aF<|.int 2)<|af<|az fg (af<|az fg (af<|az bo (aq 0)<|af<|aF<|.int 1)<|af<|aF<|.int 3)<|af<|aF<|.int 2)<|af<|aF<|.int 0))
def ar(o:Int×Int):X:=(.tup [.int o.1,.int o.2])
abbrev aU(RY:List (Int×Int)):ai:=.im (.tup<|RY.map ar)
abbrev bb(RY:List (Int×Int)):ai:=.lst (RY.map ar)
abbrev lF(x h y:Int):ai:=.lst [.int x,.int h,.int y]
def fC(v:Nat)(d:ai):Prop:=(∃x h y,d=lF x h y/\0<=x/\0<=h/\h<2^62/\0<=y/\y+v<2^40)
def fC.mono{i:Nat}(f:fC v d)(c:i<=v):fC i d:=by
 let⟨x,h,@y,rfl,t,A,a,b,e⟩:=f;exact⟨x,h,y,rfl,t,A,a,b,⋯⟩
def fC.lst(f:fC v d):∃q,d=.lst q:=by
 let⟨x,h,@y,rfl,W⟩:=f;exact⟨_,rfl⟩
def lb{i:Int}(f:fC (v+1) d)(b:0<i)(g:i<1073741824):∃s RU,ek [d,aQ i]=Z (aQ s,[RU,aQ i])/\0<=s/\s<i/\fC v RU:=by
 let⟨x,h,@y,rfl,t,A,k,l,B⟩:=f;have C:∀x:Int,dQ [X.int x,.int h,.int y] 0=Z (.int x):=λx=>rfl;have D:¬ i=0:=⋯
 by_cases j:0<x
 ·refine⟨x%i,lF (x/i) h y,?_,l1 _ ⋯,nP _ b,x/i,h,y,rfl,Int.ediv_nonneg t ⋯,A,k,l,⋯⟩;have c:dQ [X.int x,.int h,.int y] 0=Z (.int x):=rfl;simp -implicitDefEqProofs [ek,xW,j,b,g,c,ji]
 ·obtain⟨a,m⟩:∃a:Int,a=(h+(y+1)*104729)*48271%2305843009213693951:=⟨_,rfl⟩;obtain⟨RV,e⟩:∃RV:Int,RV=a*(a%1009+69621)%2305843009213693951:=⟨_,rfl⟩;have n:0<=RV:=by rw[e];exact l1 _ ∅
  have o:RV<2^62:=by
   rw[e];have:=nP (a*(a%1009+69621)) (show (0:Int)<2305843009213693951 by decide);lia
  have p:gA (y+1) 104729=aa:=mF ∅ ∅;have q:gA (h+(y+1)*104729) 48271=aa:=mF ∅ ∅;have r:gA a (a%1009+69621)=aa:=by
   have E:=l1 a (show (1009:Int)≠0 by decide);have F:=nP a (show (0:Int)<1009 by decide);exact mF ⋯ ⋯
  refine⟨RV/1000003%i,lF x RV<|y+1,?_,l1 _ ⋯,nP _ b,x,RV,y+1,rfl,t,n,o,⋯,⋯⟩;have c:dQ [X.int x,.int h,.int y] 0=Z (.int x):=rfl;have S1:dQ [X.int x,.int h,.int y] 2=Z (.int y):=rfl;have u:dQ [X.int x,.int h,.int<|y+1] 1=Z (.int h):=rfl;have w:dQ [X.int x,.int h,.int<|y+1] 2=Z (.int<|y+1):=rfl;have z:dQ [X.int x,.int RV,.int<|y+1] 1=Z (.int RV):=rfl;simp -implicitDefEqProofs [ek,xW,j,b,g,c,S1,u,w,z,ji,p,q,r,<-m,<-e]
theorem Ak:∀(z:List Int) (a b y c:Option ai) (h:Int),0<=h->h<2^62->∃e RV,0<=RV/\RV<2^62/\eQ (cz 3) pD (z.map .int) [a,b,Z<|aQ h,y,c]=Z (.aL,[a,b,Z<|aQ RV,e,c])
 |[],a,b,y,c,h,i,t=>⟨y,h,i,t,rfl⟩
 |f::z,a,b,y,c,h,i,t=>by
  obtain⟨d,g⟩:∃d:Int,d=(h*69621+f%2147483587+13)%2305843009213693951:=⟨_,rfl⟩;have j:0<=d:=by rw[g];exact l1 _ ∅
  have k:d<2^62:=by
   rw[g];have:=nP (h*69621+f%2147483587+13) (show (0:Int)<2305843009213693951 by decide);lia
  let⟨e,@RV,l,m,n⟩:=Ak z a b (Z<|aQ f) c d j k;refine⟨e,RV,l,m,?_⟩;have o:gA h 69621=aa:=mF ∅ ∅;rw[bY,eQ];dsimp only;rw[show cz 3 (.im<|.int f) [a,b,Z<|aQ h,y,c]=Z [a,b,Z<|aQ h,Z<|aQ f,c] from rfl];show (pD _).bind _=_;rw[show pD [a,b,Z<|aQ h,Z<|aQ f,c]=Z (.aL,[a,b,Z<|aQ d,Z<|aQ f,c]) by simp -implicitDefEqProofs [pD,o,<-g]];exact n
def Lz{P:List Int}{n:Int}(B:0<=n)(C:n<1000):∃d,nk [.cv (P.map .int),aQ n]=Z (d,[.cv (P.map .int),aQ n])/\fC 1000000 d:=by
 obtain⟨z,g⟩:∃z,iO (P.map X.int) V (Z 63)=z.map .int:=⟨iO P V<|Z 63,Pz _ _ _ _⟩;let⟨y,@h,S_,i,j⟩:=Ak z (Z<|.cv<|P.map .int) (Z<|aQ n) V V (7+7919*n) ⋯ ⋯;have k:gA 7919 n=aa:=Kr ∅ ∅;have l:gA (10^60) (10^60)=aa:=by decide +kernel
 have SU:gA (10^60*10^60) (10^60)=aa:=by decide +kernel
 have o:∀f p:Int,gA f (if 10^18<=p then 1 else 0)=aa:=λf p=>mF (by split<;>decide) (by split<;>decide);have e:(10:Nat)<2^64:=by decide
 have q:(0:Int)<10^60*10^60*10^60:=by decide
 have M:∀p:Int,fC 1000000 (lF (p%(10^60*10^60*10^60)*(if 10^18<=p then 1 else 0)) h 0):=λp=>by
  have t:=l1 p (show (10^60*10^60*10^60:Int)≠0 by decide);refine⟨_,_,_,rfl,?_,S_,i,lN 0,by decide⟩;split
  ·rw[C1];exact t
  ·rw[Int.mul_zero];exact lN 0
 have s:cy 2 (az dv (af<|aF<|.int 7)<|af<|az h2 (af<|aF<|.int 7919)<|aq 1) [Z (.cv<|P.map .int),Z<|aQ n,V,V,V]=Z (.aL,[Z (.cv<|P.map .int),Z<|aQ n,Z<|aQ<|7+7919*n,V,V]):=by
  simp -implicitDefEqProofs [k]
 have u:gz (eP<|af<|kW (aq 0) ma<|mH<|aF<|.int 63) (cz 3) G.pD [Z (.cv<|P.map .int),Z<|aQ n,Z<|aQ<|7+7919*n,V,V]=Z (.aL,[Z (.cv<|P.map .int),Z<|aQ n,Z<|aQ h,y,V]):=
  (oL (m:=V) (z:=z.map .int) (R_:=[Z (.cv<|P.map .int),Z<|aQ n,Z<|aQ<|7+7919*n,V,V]) (by simp -implicitDefEqProofs [g]) j).trans rfl;have cK:∀p:Int,cy 3 (k5 (bS<|az pU (af<|bX dw<|av (aq 0) aH)<|af<|aF<|.int 0) (az bo (aq 0)<|af<|az fg (aq 1)<|af<|bX dw<|av (aq 0) aH)<|aF<|.int 0) [Z (.cv<|P.map .int),Z<|aQ n,Z<|aQ h,y,V]=Z (.aL,[Z (.cv<|P.map .int),Z<|aQ n,Z<|aQ h,Z<|aQ p,V])->
   ∃d,nk [.cv (P.map .int),aQ n]=Z (d,[.cv (P.map .int),aQ n])/\fC 1000000 d:=λp a=>by
  refine⟨_,?_,M p⟩;unfold nk F7;refine j0 [Z (.cv<|P.map .int),Z<|aQ n,Z<|aQ h,Z<|aQ p,Z<|aQ<|10^60*10^60*10^60] rfl ((dB s).trans<|(dB u).trans<|(dB a).trans<|(dB (R_:=[Z (.cv<|P.map .int),Z<|aQ n,Z<|aQ h,Z<|aQ p,Z<|aQ<|10^60*10^60*10^60]) ?_).trans ?_) rfl
  ·simp -implicitDefEqProofs [l,SU,e,-Int.reducePow,-Nat.reducePow]
  ·simp -implicitDefEqProofs [o,e,q,-Int.reducePow,-Nat.reducePow]
 by_cases v:0<(P.length:Int)
 ·obtain⟨r,b⟩:∃r:Int,r=n%(P.length:Int):=⟨_,rfl⟩;have w:0<=r:=by rw[b];exact l1 _ ⋯
  have D:r<P.length:=by rw[b];exact nP _ v
  obtain⟨p,a⟩:∃p,P[r.toNat]?=Z p:=⟨P[r.toNat]'⋯,by simp⟩;have x:dQ (P.map X.int) r=Z (.int p):=DP w (by rw[dT,a];rfl);refine cK p ?_;have A:0<P.length:=⋯
  simp -implicitDefEqProofs [A,<-b,x]
 ·refine cK 0 ?_;have c:P=[]:=xv.mp ⋯;subst c;simp -implicitDefEqProofs
def cZ(o:Int×Int):List X:=([.int o.1,.int o.2])
def sW(o:Int×Int):ar o=.tup (cZ o):=rfl
def ov(d:cZ g=cZ e):g=e:=by
 unfold cZ at d;simp at d;exact dK d.1 d.2
def H_(d:ar g=ar e):g=e:=by
 rw[sW,sW]at d;exact ov (by injection d)
def r9(o:Int×Int):X.keys 7 (cZ o)=aa:=rfl
def mI:X->Int×Int
 |.tup [.int g,.int e]=>(g,e)
 |_=>(0,0)
def zO(o:Int×Int):mI (ar o)=o:=rfl
def rS(o:Int×Int):X.a5 8 (ar o)=aa:=rfl
theorem DE:∀RY:List (Int×Int),X.c5 8 (RY.map ar)=aa
 |[]=>rfl
 |o::u=>by rw[bY,X.c5,rS,DE u];rfl
def nM(g e:Int×Int):b3 (ar g) (ar e)=decide (g=e):=by
 show ((g.1==e.1)&&((g.2==e.2)&&aa))=_;let⟨a,S1⟩:=g;let⟨bA,b0⟩:=e;by_cases t:a=bA<;>by_cases A:S1=b0<;>simp[t,A]
def IC(RY:List (Int×Int))(p:Int×Int):((RY.map ar).any λf=>b3 f<|ar p)=decide (p∈RY):=by
 rw[s_,iX,od,fi];constructor
 ·rintro⟨f,a,c⟩;have:decide (f=p)=aa:=by rw[<-nM];exact c
  rw[<-fK this];exact a
 ·intro d;refine⟨p,d,?_⟩;show b3 (ar p) (ar p)=aa;rw[nM];exact er rfl
theorem CP:∀(J:List X) (R:List (Int×Int)),(∀f∈J,f∈R.map ar)->J=(J.map mI).map ar
 |[],_,_=>rfl
 |f::J,R,d=>by
  let⟨@o,W,c⟩:=dS.mp (d f<|.head _);rw[bY,bY,<-CP J R λD a=>d D<|.tail _ a,<-c,zO]
def y9{J:List X}(d:J.Perm (R.map ar)):∃B:List (Int×Int),B.Perm R/\J=B.map ar:=by
 refine⟨J.map mI,?_,CP J R λf a=>d.mem_iff.mp a⟩;have:=t8 mI d;rw[g8]at this;have c:(mI ∘ ar:Int×Int->Int×Int)=id:=funext zO;rw[c,zG]at this;exact this
def FD(aj:R.Nodup)(a:R.length<=1000):iI (R.map ar):=by
 refine⟨⟨by rw[bt];exact a,λg b e d=>?_,?_⟩,.inl λx h=>?_⟩
 ·let⟨@f,W,rfl⟩:=dS.mp b;let⟨@D,W,rfl⟩:=dS.mp d;rfl
 ·exact DX ar (λg e v c=>v<|H_ c) aj
 ·let⟨@f,W,rfl⟩:=dS.mp h;rfl
def eG(R:List (Int×Int)):List (List X×X):=(R.map λp=>(cZ p,.aN aa))
def ru{Sb:List (Int×Int)}{a:Int}{p:Int×Int}(b:0<=a)(d:Sb[a.toNat]?=Z p):dQ (Sb.map ar) a=Z (ar p):=DP b (by rw[dT,d];rfl)
def vp(RY:List (Int×Int))(p:Int×Int):gD (ar p) (bb RY)=Z (decide (p∈RY)):=by
 rw[Pd,rS,DE,IC];rfl
theorem AE{Sj SX:Type}(F:Sj->SX):∀(J:List Sj) (n:Nat),(J.map F).eraseIdx n=(J.eraseIdx n).map F
 |[],_=>rfl
 |_::_,0=>rfl
 |g::J,n+1=>by simp[AE F J n]
def mid:bF:=((fN (ju (bS<|az iH (aq 2)<|af<|aF<|.int 1)<|bS<|az iH (aq 2)<|af<|aF<|.int 2) (gz (jr<|av (af<|bV 2 G.ek<|av (aq 0)<|av (af<|az dv (af<|aF<|.int 1)<|af<|az u5 (af<|bX dw<|av (aq 5) aH)<|af<|aF<|.int 2) aH) aH) (cz 6) G.O8)<|fN (bS<|az iH (aq 2)<|af<|aF<|.int 3) (cy 5<|gK 1 [] (eP<|aq 5) (cz 0) G.Ky G.I7)<|fN (bS<|az pU (aq 2)<|af<|aF<|.int 3) (cy 5<|bV 2 G.Kp<|av (aq 0)<|av (aq 1) aH) hT))
abbrev bT:=(Int×Int)×(Int×Int)
def hx(c:bT):List X:=([ar c.1,ar c.2])
def il(g e:Int×Int):bT:=((if bh (ar e) (ar g)=aa then e else g,if bh (ar g) (ar e)=aa then e else g))
def MQ(g e:Int×Int):r0 [.im (ar g),.im<|ar e]=Z (.im<|ar (il g e).1):=by
 show (if d3 6 (ar e) (ar g)=aa then Z (ai.im<|if bh (ar e) (ar g)=aa then ar e else ar g) else V)=Z (.im<|ar<|if bh (ar e) (ar g)=aa then e else g);rw[aD (show d3 6 (ar e) (ar g)=aa from rfl)];split<;>rfl
def Lv(g e:Int×Int):rR [.im (ar g),.im<|ar e]=Z (.im<|ar (il g e).2):=by
 show (if d3 6 (ar e) (ar g)=aa then Z (ai.im<|if bh (ar g) (ar e)=aa then ar e else ar g) else V)=Z (.im<|ar<|if bh (ar g) (ar e)=aa then e else g);rw[aD (show d3 6 (ar e) (ar g)=aa from rfl)];split<;>rfl
def bump:List (bT×Int)->bT->List (bT×Int)
 |[],c=>[(c,1)]
 | (F,v)::u,c=>if F=c then (F,v+1)::u else (F,v)::bump u c
def P9(g e:Int×Int):qC [.im (ar g),.im<|ar e]=Z (.im<|.tup<|hx<|il g e,[.im (ar g),.im<|ar e]):=by
 have t:=MQ g e;have A:=Lv g e;simp -implicitDefEqProofs [qC,EL,t,A,hx]
end G
namespace L2
open Spec PyProof.Rows PySem.W
variable{r a:Int}{g:ag}
structure kL(Q:Φ)(R4:bp)(H:a7)(SN:List (ag×List X))(b_:List (ag×List (List X×ag))):Prop where
 tup:∀o∈SN,∃z,(∀j,c7 Q j o.1 z)/\∀j,bx j o.2 z
 Ke:∀o∈b_,∃z:List (List X×ag×ab),(∀d:aV,Q.In d->d.DictOfH (dU R4 H) o.1 z)/\(z.map λf=>(f.1,f.2.2))=o.2.map λq=>(q.1,ab.ref q.2)
structure dq where
 gj:ag
 kt:List (ag×List X)
 b_:List (ag×List (List X×ag))
@[simp] def s6(b_:List (ag×List (List X×ag)))(g:ag)(n:List X):Option ag:=(b_.find? λo=>decide (o.1=g)).bind λo=>(o.2.find? λq=>decide (q.1=n)).map (·.2)
@[simp] def jv(SN:List (ag×List X))(g:ag)(a:Int):Option X:=(SN.find? λo=>decide (o.1=g)).bind λo=>dQ o.2 a
@[simp] def dH(SN:List (ag×List X))(b_:List (ag×List (List X×ag))):f6:=λg e=>match g,e with
 |.im (.fn g),.im (.int a)=>(jv SN g a).map .im
 |.im (.fn g),.im (.tup n)=>if X.keys 7 n=aa then (s6 b_ g n).map λx=>.im (.fn x) else V
 |g,e=>bo g e
theorem Cb:∀{z:List (List X×ag×ab)}{Sh:List (List X×ag)}{n:List X}{q:List X×ag},(z.map λf=>(f.1,f.2.2))=(Sh.map λq=>(q.1,ab.ref q.2))->(Sh.find? λq=>decide (q.1=n))=Z q->∃p,i6 z n=Z (p,.ref q.2)
 |[],[],n,q,_,F=>by cases F
 |[],D::Sh,n,q,c,F=>by cases c
 |f::z,[],n,q,c,F=>by cases c
 |f::z,D::Sh,n,q,c,F=>by
  rw[bY,bY]at c;injection c with a b;injection a with e g;rw[iW]at F;unfold i6;rw[iW,e];split at F
  ·rename_i d;cases F;rw[d];exact⟨f.2.1,by rw[<-g];rfl⟩
  ·rename_i d;rw[d];exact Cb b F
section
variable{b:aJ}{SN:List (ag×List X)}{b_:List (ag×List (List X×ag))}
def Jk(d:b.A.units+20<bD)(R8:kL b.K b.prog b.w SN b_):gY b (λf D j B=>∃g n e x,f=.ref g/\D=.ref e/\gC j n e/\s6 b_ g n=Z x/\B (.ref x) j):=by
 intro Tj J G h w j f D s I B l i m ⟨g,n,e,x,r,t,u,v,q⟩ R6;subst r t;cases i;cases m;let⟨@o,c,y⟩:=bu.mp v;let⟨@z,k,SQ⟩:=R8.Ke o (E2 c);have bG:=B8 c;have bG:o.1=g:=fK bG;let⟨@C,E,rfl⟩:=cB.mp y;have a:=k h.heap l.hr;rw[bG]at a;let⟨@p,F⟩:=Cb SQ E;exact xu a.typeIs z1.lookup (D8 (pH d) (kB l.a0 u) a F ⟨.ref C.2,j,l.tok _,rfl,q⟩) R6
def iz(m:b.A.units+20<bD)(R8:kL b.K b.prog b.w SN b_):gY b (λf D j B=>∃Sx SK x,eu j Sx f/\eu j SK D/\dH SN b_ Sx SK=Z x/\∀s S R1,cI j S->b4 S x s R1->R1.Nodup->(∀g∈R1,j g=V)->B s S):=by
 refine ((Aw m).or<|F3.or<|Jk m R8).imp λf D j B r=>?_;let⟨Sx,SK,@x,d,h,c,q⟩:=r;unfold dH at c;split at c
 ·let⟨@n,k,l⟩:=cB.mp c;cases l;let⟨@o,p,t⟩:=bu.mp k;let⟨@z,Se,SY⟩:=R8.tup o (E2 p);have bG:=B8 p;have bG:=fK bG;let⟨@s,u,v⟩:=s9 (SY j) t;exact .inr (.inl ⟨o.1,z,_,s,by rw[bG];exact d.i,h.i,Se j,u,b6.i q v⟩)
 ·split at c
  ·rename_i y;let⟨@n,k,l⟩:=cB.mp c;cases l;let⟨e,@z,rfl,C,E⟩:=h.i;exact .inr (.inr ⟨_,_,e,n,d.i,rfl,⟨y,e,z,rfl,C,E⟩,k,b6.i q rfl⟩)
  ·cases c
 ·exact .inl ⟨Sx,SK,x,d,h,c,q⟩
end
def nF(a b c d e f g SE h i y j k:ag):dq:=(⟨a,[(b,[.fn c,.fn d]),(e,[.fn f,.fn g]),(SE,[.fn h,.fn i]),(y,[.fn j,.fn k]),(c,[.int (-1),.int 0]),(d,[.int 0,.int 1]),(f,[.int 0,.int 1]),(g,[.int 1,.int 0]),(h,[.int 1,.int 0]),(i,[.int 0,.int<|-1]),(j,[.int 0,.int<|-1]),(k,[.int (-1),.int 0])],
 [(a,[([.int 0,.int 0],b),([.int 0,.int 1],e),([.int 1,.int 1],SE),([.int 1,.int 0],y)])]⟩)
def gn(Q:Φ)(g:ag)(a r:Int):Prop:=(∃x y I v h,Q.lookup g=Z ⟨.type "tuple",x,.seq #[.int a y,.int r I] v,h⟩)
def mL(Q:Φ)(g f D:ag):Prop:=(∃x v h,Q.lookup g=Z ⟨.type "tuple",x,.seq #[.ref f,.ref D] v,h⟩)
variable{Q:Φ}{R4:bp}{H:a7}
def gn.tup(d:gn Q g a r):∃z,(∀j,c7 Q j g z)/\∀j,bx j [.int a,.int r] z:=by
 let⟨x,y,I,v,@h,c⟩:=d;refine⟨[.int a,.int r],λj=>.inr ⟨_,_,v,c,rfl,rfl,by show 2<=sizeLine;decide,.cons ⟨y,rfl⟩<|.cons ⟨I,rfl⟩ .nil⟩,λj=>⟨_,_,rfl,rfl,_,_,rfl,rfl,rfl⟩⟩
def mL.tup{f D:ag}(d:mL Q g f D):∃z,(∀j,c7 Q j g z)/\∀j,bx j [.fn f,.fn D] z:=by
 let⟨x,v,@h,c⟩:=d;refine⟨[.ref f,.ref D],λj=>.inr ⟨_,_,v,c,rfl,rfl,by show 2<=sizeLine;decide,.cons rfl<|.cons rfl .nil⟩,λj=>⟨_,_,rfl,rfl,_,_,rfl,rfl,rfl⟩⟩
def gn.is(d:gn Q g a r){e:aV}(b:Q.In e):(dU R4 H).is e [.int a,.int r] g:=by
 let⟨x,y,I,v,@h,c⟩:=d;exact⟨rfl,g,_,_,v,rfl,b _ _ c,rfl,rfl,_,_,rfl,⟨y,rfl⟩,_,_,rfl,⟨I,rfl⟩,rfl⟩
def Cr{p q a g h r c i j s SE k l u y m n:ag}{w t A x:Int}{v:Nat}(B:Q.lookup p=Z ⟨.type "dict",V,.dict #[⟨w,.ref q,.ref a⟩,⟨t,.ref r,.ref c⟩,⟨A,.ref s,.ref SE⟩,⟨x,.ref u,.ref y⟩] v,#[]⟩)(C:w=c3 H (.tup [.int 0,.int 0]))(D:t=c3 H (.tup [.int 0,.int 1]))(E:A=c3 H (.tup [.int 1,.int 1]))(F:x=c3 H (.tup [.int 1,.int 0]))(G:gn Q q 0 0)(I:gn Q r 0 1)(J:gn Q s 1 1)(L:gn Q u 1 0)(M:mL Q a g h)(N:mL Q c i j)(O:mL Q SE k l)(P:mL Q y m n)(S_:gn Q g (-1) 0)(R:gn Q h 0 1)(S:gn Q i 0 1)(T:gn Q j 1 0)(U:gn Q k 1 0)(al:gn Q l 0 (-1))(am:gn Q m 0 (-1))(an:gn Q n (-1) 0):
  kL Q R4 H (nF p a g h c i j SE k l y m n).kt (nF p a g h c i j SE k l y m n).b_:=by
 constructor
 ·intro o e;simp only[nF,cc,fI,hz]at e;rcases e with d|d|d|d|d|d|d|d|d|d|d|d<;>subst d
  ·exact M.tup
  ·exact N.tup
  ·exact O.tup
  ·exact P.tup
  ·exact S_.tup
  ·exact R.tup
  ·exact S.tup
  ·exact T.tup
  ·exact U.tup
  ·exact al.tup
  ·exact am.tup
  ·exact an.tup
 ·intro o e;simp only[nF,cc,fI,hz]at e;subst e;subst C D E F;refine⟨[([.int 0,.int 0],q,.ref a),([.int 0,.int 1],r,.ref c),([.int 1,.int 1],s,.ref SE),([.int 1,.int 0],u,.ref y)],λd b=>⟨_,_,v,b _ _ B,⟨rfl,rfl,rfl⟩,rfl,rfl,λf z=>?_,?_⟩,rfl⟩
  ·simp only[cc,fI,hz]at z;rcases z with d|d|d|d<;>subst d
   ·exact G.is b
   ·exact I.is b
   ·exact J.is b
   ·exact L.is b
  ·simp
end L2
namespace L2
open Spec PyProof.Rows PySem.W
variable{a:Nat}
def ow(k:aW)(a:Nat)(E:List X):Bool:=(match k[a]? with
 |some (Z<|.lst D)=>decide (D=E)
 |_=>ay)
def kk(a:Nat)(E:List X)(Sz:eF)(e:bF):List X->bF
 |[]=>λk=>if ow k a E=aa then Z (.aL,k) else V
 |f::u=>λk=>if ow k a E=aa then (Sz (.im f) k).bind λR_=>(e R_).bind λq=>match q.1 with
  |.aL=>kk a E Sz e u q.2
  |.bQ=>kk a E Sz e u q.2
  |.fb=>Z (.aL,q.2)
  |.dP x=>Z (.dP x,q.2) else V
def we(a:Nat)(Sz:eF)(e:bF):bF:=(λk=>match k[a]? with
 |some (Z<|.lst E)=>kk a E Sz e E k
 |_=>V)
def F0{k:aW}{E:List X}(d:ow k a E=aa):k[a]?=Z (Z<|.lst E):=by
 unfold ow at d;split at d
 ·rename_i D c;rw[c,fK d]
 ·cases d
section
variable{b:aJ}
def M0{Sy SO:List Nat}{Sz S4:bj}{Th:List bI}{Tf:eF}{SV:bF}{Sd:Pos}(bv:n2 (aM b.prog b.w) b.A b.env b.cH)(ca:b.calm=aa)(RT:dm b S4 (aq a))(cd:gM b SO Sz Tf)(ce:hM b SO Th SV)(ch:∀a∈Sy,a∈SO)(R6:a∈SO)(ci:∀f,nd S4 b.env f=pure f:=by intro W;rfl):hZ b Sy (.For Sz S4 Th [] Sd) (we a Tf SV):=by
 refine jM (A0 bv ca (FP RT) cd ce ci) λRW w j cl=>?_;let⟨k,N,F,@Sv,Y,aj,L,q⟩:=cl;unfold we at L;split at L
 ·rename_i E as;refine⟨k,N,.bJ a,k,Y,aj,by unfold aq;rw[as],λs R5 Sg R1 a1 D a2=>?_⟩;let@⟨D,rfl⟩:=D;rw[bR]at a2;have R:∀{S:ax}{e:aW}{n:aZ}{SA:List ag},bc S e n SA->n[a]?=Z (Z s)->e[a]?=Z (Z<|.lst E)->∃g z,s=.ref g/\S g=Z (.lst z)/\bx S E z:=λB co cr=>by
   let⟨f4,f8,@ga,bd,cs,W⟩:=B.out cr;rw[co]at bd;cases bd;let⟨g,@z,c,t,A,W⟩:=cs;exact⟨g,z,c,t,A⟩
  let⟨g,@z,rfl,t,A⟩:=R a1 D as;refine⟨g,rfl,.inl ⟨⟨z,dE.of t⟩,?_⟩⟩;have T:∀{C:aZ},cS SO w C->cS Sy w C:=λF=>⟨F.1,λa RT=>F.2 a<|ch a RT⟩;refine⟨λr i n S=>i+r=E.length/\∃e SA,cS SO w n/\bc S e n SA/\a4 j N S SA/\kk a E Tf SV (E.drop r) e=Z (F,Sv),⟨E.length,rfl,k,Sg,cS.refl,a1,a2,L⟩,?_⟩;rintro r i n S ⟨ge,e,SA,o,B,RV,h⟩;by_cases be:r<E.length
  ·rw[iK be,kk]at h;dsimp only at h;split at h
   ·rename_i U;let⟨db,@ds,c,al,am⟩:=R B ((o.2 a R6).trans D) (F0 U);cases c;let@⟨dL,eq⟩:=(x6 (Q:=b.K) al am).go S (d8.of (λ_ W c=>c)<|λ_ W W c=>c) (λ_ W W c=>c) r E[r] (by simp[be]);let⟨@l,cw,cp⟩:=bu.mp h;let⟨@⟨bi,an⟩,c_,M⟩:=bu.mp cp;refine .inr ⟨dL,λC Sf=>(i-1)+(r+1)=E.length/\∃e SA,cS SO w C/\bc Sf e C SA/\a4 j N Sf SA/\kk a E Tf SV (E.drop<|r+1) e=Z (F,Sv),λC Sf d=>⟨i-1,⋯,d⟩,λf Sf ev=>?_⟩;let@⟨ap,ex⟩:=eq f Sf ev;have fd:=B.mono ap.tupS λg W m c=>ap g m c;have bm:=RV.same ap;refine⟨e,SA,.im E[r],[],l,fd,⟨ex,rfl⟩,by rw[bR];exact bm.aj,cw,λgl fn bn P fr bs=>?_⟩;have G:a4 j N fn bn:=bm.seq (by rw[bR]at bs;exact bs);refine⟨l,bn,bi,an,fr,G.aj,c_,?_⟩;cases bi with
    |aL=>exact λI J p u v y=>⟨⋯,an,p,(o.trans P).trans u,v,G.seq y,M⟩
    |bQ=>exact λI J p u v y=>⟨⋯,an,p,(o.trans P).trans u,v,G.seq y,M⟩
    |fb=>
     cases M;exact λI J p u v y=>q I J p (T<|(o.trans P).trans u) v (G.seq y)
    |dP x=>
     cases M;exact λs I J p f0 u v f1 y=>q s I J p f0 (T<|(o.trans P).trans u) v f1 (G.seq y)
   ·cases h
  ·have f2:r=E.length:=⋯
   subst f2;rw[nq (bl _),kk]at h;dsimp only at h;split at h
   ·rename_i U;cases h;let⟨db,@ds,c,al,am⟩:=R B ((o.2 a R6).trans D) (F0 U);cases c;exact .inl ⟨(x6 (Q:=b.K) al am).stop S (d8.of (λ_ W c=>c)<|λ_ W W c=>c)<|λ_ W W c=>c,q n S SA (T o) B RV⟩
   ·cases h
 ·cases L
end
end L2
namespace G
open L2
def ED:bF:=((dk<|dz<|av (af<|az hi (af<|az bo (aq 1)<|af<|aF<|.int 0)<|af<|az fg (af<|az hi (af<|az bo (aq 1)<|af<|aF<|.int 0)<|af<|az bo (af<|az bo (aq 0)<|af<|aF<|.int 0)<|af<|aF<|.int 0)<|af<|aF<|.int 2)<|av (af<|az hi (af<|az bo (aq 1)<|af<|aF<|.int 1)<|af<|az fg (af<|az hi (af<|az bo (aq 1)<|af<|aF<|.int 1)<|af<|az bo (af<|az bo (aq 0)<|af<|aF<|.int 0)<|af<|aF<|.int 1)<|af<|aF<|.int 2) aH))
def p4:cX:=(dy 2 2 [0,1] ED)
def Fz(R:dq):bF:=((dk<|dz<|av (af<|az dv (af<|az (dH R.kt R.b_) (aq 0)<|af<|aF<|.int 0)<|af<|az h2 (af<|az (dH R.kt R.b_) (aq 1)<|af<|aF<|.int 0)<|aq 2)<|av (af<|az dv (af<|az (dH R.kt R.b_) (aq 0)<|af<|aF<|.int 1)<|af<|az h2 (af<|az (dH R.kt R.b_) (aq 1)<|af<|aF<|.int 1)<|aq 2) aH))
def kI(R:dq):cX:=(dy 3 3 [0,1,2] (Fz R))
def D9(R:dq):bF:=((b1 (cy 3<|bV 2 G.p4<|av (aq 0)<|av (aq 2) aH)<|b1 (cy 4<|az (dH R.kt R.b_) (af<|aF<|.fn R.gj)<|af<|dz<|av (af<|az hi (af<|az (dH R.kt R.b_) (aq 2)<|af<|aF<|.int 0)<|af<|az (dH R.kt R.b_) (aq 3)<|af<|aF<|.int 0)<|av (af<|az hi (af<|az (dH R.kt R.b_) (aq 2)<|af<|aF<|.int 1)<|af<|az (dH R.kt R.b_) (aq 3)<|af<|aF<|.int 1) aH)<|b1 (fN (bS<|az oM (af<|bV 2 G.qC<|av (aq 3)<|av (af<|bV 3 (G.kI R)<|av (aq 3)<|av (af<|az (dH R.kt R.b_) (aq 4)<|af<|aF<|.int 0)<|av (af<|aF<|.int 2) aH) aH)<|aq 1) (dk<|bV 3 (G.kI R)<|av (aq 2)<|av (af<|az (dH R.kt R.b_) (aq 4)<|af<|aF<|.int 0)<|av (af<|aF<|.int 1) aH) hT)<|dk<|bV 3 (G.kI R)<|av (aq 2)<|av (af<|az (dH R.kt R.b_) (aq 4)<|af<|aF<|.int 1)<|av (af<|aF<|.int 1) aH))
def hY(R:dq):cX:=(dy 3 5 [0,1,2] (D9 R))
end G
namespace L2
open Spec PyProof.Rows PySem.W
def Bu:ai->ai
 |.im (.aT f)=>.cv f
 |x=>x
@[simp] theorem Rw(f:List X):Bu (.im<|.aT f)=.cv f:=rfl
@[simp] theorem RG(f:List X):Bu (.im<|.tup f)=.im (.tup f):=rfl
end L2
namespace L2
section
variable{k R_ Sv:aW}
variable{x:ai}
def dM{L:aA ai}(d:L k=Z (x,R_)):af L k=Z (.cU x,R_):=by unfold af;rw[d];rfl
variable{f:bz}
def dR{L:aA bz}{d:aA (List bz)}{z:List bz}(a:L k=Z (f,R_))(b:d R_=Z (z,Sv)):av L d k=Z (f::z,Sv):=by unfold av;rw[a];show (d R_).map _=_;rw[b];rfl
variable{Sx SK:ai}
def h4{SJ:ai->ai->Option ai}{S2 SV:aA bz}{D:bz}(a:S2 k=Z (f,R_))(b:SV R_=Z (D,Sv))(c:du Sv f=Z Sx)(d:du Sv D=Z SK)(e:SJ Sx SK=Z x):az SJ S2 SV k=Z (x,Sv):=by
 unfold az;rw[a];show (SV R_).bind _=_;rw[b];show (du Sv f).bind _=_;rw[c];show (du Sv D).bind _=_;rw[d];show (SJ Sx SK).map _=_;rw[e];rfl
variable{L:aA (List bz)}{v:Nat}{M:List bz}
def eN{R2:cX}{E cj:List ai}{u:ai}(a:L k=Z (M,R_))(b:M.length=v)(c:d2 M R_=Z (E,Sv))(d:R2 E=Z (u,cj)):bV v R2 L k=Z (u,g4 M cj Sv):=by
 unfold bV;rw[a];show (if M.length=v then _ else _)=_;rw[aD b];show (d2 M R_).bind _=_;rw[c];show (R2 E).map _=_;rw[d];rfl
variable{E:List ai}
def pF{SJ:List ai->Option ai}(a:L k=Z (M,R_))(b:ht R_ M=Z E)(c:SJ E=Z x):bX SJ L k=Z (x,R_):=by
 unfold bX;rw[a];show (ht R_ M).bind _=_;rw[b];show (SJ E).map _=_;rw[c];rfl
def xp{L:aA ai}{e:Bool}(c:L k=Z (.im<|.aN e,R_)):bS L k=Z (e,R_):=by unfold bS;rw[c];rfl
def s7{L:aA ai}{d:eF}(c:L k=Z (x,R_))(a:d x R_=Z Sv):iS L d k=Z (.aL,Sv):=by unfold iS;rw[c];show (d x R_).map _=_;rw[a];rfl
def nZ{L:aA ai}(c:L k=Z (x,R_)):iM L k=Z (.aL,R_):=by unfold iM;rw[c];rfl
variable{l:aW}
def mQ{ty:ai->Bool}{a:Nat}{eG:ai->List ai->Option (ai×ai)}{b p u c:ai}(d:k[a]?=Z (Z b))(e:ty b=aa)(f:L k=Z (M,R_))(g:d2 M R_=Z (E,Sv))(h:Sv[a]?=Z (Z p))(i:eG p E=Z (u,c))(n:Sv.set a (Z c)=l):gI ty a eG L k=Z (u,l):=by
 subst n;unfold gI;rw[d];show (if ty b=aa then _ else _)=_;rw[aD e,f];show (d2 M R_).bind _=_;rw[g];show (match Sv[a]? with|some (Z p)=>_|_=>V)=_;rw[h];show (eG p E).map _=_;rw[i];rfl
def Pu(a:L k=Z (M,R_))(b:d2 M R_=Z (E,Sv))(c:E.length<=100000)(n:qq E=x):dz L k=Z (x,Sv):=by
 unfold dz;rw[a];show (d2 M R_).bind _=_;rw[b];show (if _ then _ else _)=_;rw[aD c,n]
def GB(a:L k=Z (M,R_))(b:d2 M R_=Z (E,Sv))(c:E.length<=100000)(n:qj E=x):fO L k=Z (x,Sv):=by
 unfold fO;rw[a];show (d2 M R_).bind _=_;rw[b];show (if _ then _ else _)=_;rw[aD c,n]
variable{a:Int}
def Kx{L:aA ai}(c:L k=Z (.im<|.int a,R_)):uN L k=Z (.im<|.int<|-a,R_):=by unfold uN;rw[c];rfl
def GG{f:List X}{x:X}(d:f.length<100000):hI (.lst f) [.im x]=Z (.im .aX,.lst<|f++[x]):=aD d
def QJ(a r:Int):iH (.im<|.int a) (.im<|.int r)=Z (.im<|.aN<|decide (a=r)):=by
 show Z (ai.im<|.aN<|a==r)=_;by_cases d:a=r<;>simp[d]
def Ni(a r:Int):dD (.im<|.int a) (.im<|.int r)=Z (.im<|.aN<|!decide (a=r)):=by
 show Z (ai.im<|.aN<|!(a==r))=_;by_cases d:a=r<;>simp[d]
variable{r:Int}
def D1(d:gA a r=aa):h2 (.im<|.int a) (.im<|.int r)=Z (.im<|.int<|a*r):=aD d
def xk(d:0<r):fg (.im<|.int a) (.im<|.int r)=Z (.im<|.int<|a%r):=aD (er d)
variable{u:Option (nQ×aW)}{p:aA Bool}
theorem pf{g e:bF}(c:p k=Z (ay,R_))(d:e R_=u):fN p g e k=u:=(t6 c).trans d
theorem fA{L d:bF}(c:L k=Z (.aL,R_))(n:d R_=u):b1 L d k=u:=(dB c).trans n
variable{a:Nat}
theorem iT{L:aA ai}(c:L k=Z (x,R_))(d:a<R_.length)(n:R_.set a (Z x)=Sv):cy a L k=Z (.aL,Sv):=(EX c d).trans (by rw[n])
theorem tP{L:hq}{Sz:eF}{e:bF}{z:List X}{m:Option (Nat×ai)}{aT:nQ}(c:L k=Z ((z,m),R_))(d:eQ Sz e z R_=Z (aT,Sv))(n:kE m Sv=l):gz L Sz e k=Z (aT,l):=(oL c d).trans (by rw[n])
variable{u:Option (Bool×aW)}{e g:aA Bool}
def oH(c:g k=Z (ay,R_))(d:e R_=u):ju g e k=u:=by unfold ju;rw[c];exact d
def M9(c:g k=Z (aa,R_))(d:e R_=u):gZ g e k=u:=by unfold gZ;rw[c];exact d
def Np(c:g k=Z (ay,R_)):gZ g e k=Z (ay,R_):=by unfold gZ;rw[c];rfl
variable{u:Option (ai×aW)}{e g:aA ai}
def LV(c:p k=Z (aa,R_))(d:g R_=u):k5 p g e k=u:=by unfold k5;rw[c];exact d
def Jq(c:p k=Z (ay,R_))(d:e R_=u):k5 p g e k=u:=by unfold k5;rw[c];exact d
def C5{r:Nat}(b:L k=Z (M,R_))(c:d2 M R_=Z ([Sx,SK],Sv))(RT:a<Sv.length)(d:r<Sv.length)(n:(Sv.set a<|Z Sx).set r (Z SK)=l):nf a r L k=Z (.aL,l):=by
 unfold nf;rw[b];show (d2 M R_).bind _=_;rw[c];show (if a<Sv.length/\r<Sv.length then _ else _)=_;rw[aD ⟨RT,d⟩,n]
variable{u:ai}
def tA{R2:cX}{E cj:List ai}(a:L k=Z (M,R_))(b:M.length=v)(c:d2 M R_=Z (E,Sv))(d:R2 E=Z (u,cj))(n:g4 M cj Sv=l):bV v R2 L k=Z (u,l):=by rw[<-n];exact eN a b c d
def O4{L:aA bz}{J d:aA (Option Int)}{P RT:Option Int}{a:ai}(b:L k=Z (f,R_))(c:J R_=Z (P,Sv))(e:d Sv=Z (RT,l))(g:du l f=Z x)(h:rG x P RT=Z a):kW L J d k=Z (a,l):=by
 unfold kW;rw[b];show (J R_).bind _=_;rw[c];show (d Sv).bind _=_;rw[e];show (du l f).bind _=_;rw[g];show (rG x P RT).map _=_;rw[h];rfl
def tb(a:L k=Z (M,R_))(b:ht R_ M=Z [.im (.int r)])(d:nx r):jr L k=Z ((f3 0 r.toNat,V),R_):=by
 unfold jr;rw[a];show (ht R_ M).bind _=_;rw[b];show (if nx r then _ else _)=_;rw[aD d]
def ja{i:Nat}{Sy:List Nat}{L:bF}{E cj:List ai}(a:E.length=v)(c:L (E.map Z++List.replicate (i-v) V)=Z (.dP u,k))(b:ix Sy E k 0=cj):dy v i Sy L E=Z (u,cj):=j0 k a c b
end
end L2
namespace G
open L2
variable{R8:List bT}
abbrev aC:=Int×Int
variable{RX:List aC}{p e:aC}
def bP(e:aC):Nat->aC
 |0=>e
 |1=>(e.1,e.2+1)
 |2=>(e.1+1,e.2+1)
 |_=>(e.1+1,e.2)
def eh(e:aC):Nat->aC
 |0=>(e.1-2,e.2)
 |1=>(e.1,e.2+2)
 |2=>(e.1+2,e.2)
 |_=>(e.1,e.2-2)
def gL(e:aC):List aC:=([e,(e.1,e.2+1),(e.1+1,e.2+1),(e.1+1,e.2)])
def eC(R8:List bT)(g e:aC):Bool:=(decide ((g,e)∈R8\/(e,g)∈R8))
def AA(R8:List bT)(g e:aC):eC R8 g e=eC R8 e g:=by
 unfold eC;rw[iX,fi,fi];exact Or.comm
def aL(R8:List bT)(o:aC×Nat):aC×Nat:=(if eC R8 o.1 (eh o.1 o.2)=aa then (eh o.1 o.2,(o.2+3)%4) else (o.1,(o.2+1)%4))
def i4(R8:List bT)(o:aC×Nat):aC×Nat:=(if eC R8 o.1 (eh o.1<|(o.2+3)%4)=aa then (eh o.1<|(o.2+3)%4,(o.2+1)%4) else (o.1,(o.2+3)%4))
def FR(R8:List bT)(e:aC){n:Nat}(a:n<4):i4 R8 (aL R8 (e,n))=(e,n):=by
 unfold aL;by_cases d:eC R8 e (eh e n)=aa
 ·rw[aD d];rw[AA]at d;have c:eh (eh e n) (((n+3)%4+3)%4)=e:=by
   match n,a with
   |0,_=>simp[eh]
   |1,_=>simp[eh]
   |2,_=>simp[eh]
   |3,_=>simp[eh]
  unfold i4;dsimp only;rw[c,aD d];exact dK rfl (by show ((n+3)%4+1)%4=n;omega)
 ·rw[aG d];have c:((n+1)%4+3)%4=n:=by omega
  unfold i4;dsimp only;rw[c,aG d]
def Hu(R8:List bT)(o:aC×Nat):(aL R8 o).2<4:=by
 unfold aL;split<;>exact jV _ ∅
structure iq(RX:List aC):Prop where
 ne:RX≠[]
 aj:RX.Nodup
 len:RX.length<=40
 nT:∀e∈RX,0<=e.1/\e.1<=29/\0<=e.2/\e.2<=29
 par:∀g∈RX,∀e∈RX,(g.1-e.1)%2=0/\(g.2-e.2)%2=0
 con:∀o:aC->aC,(∀g∈RX,∀e∈RX,(e=(g.1,g.2+2)\/e=(g.1+2,g.2))->o g=o e)->∀g∈RX,∀e∈RX,o g=o e
def Ex:p∈gL e↔(p.1=e.1\/p.1=e.1+1)/\(p.2=e.2\/p.2=e.2+1):=by
 let⟨f,D⟩:=p;let⟨I,s⟩:=e;simp only[gL,cc,fI,hz,xR];constructor
 ·lia
 ·lia
def y8(e:aC){n:Nat}(a:n<4):bP e n∈gL e:=by
 match n,a with
 |0,_=>simp[bP,gL]
 |1,_=>simp[bP,gL]
 |2,_=>simp[bP,gL]
 |3,_=>simp[bP,gL]
def OZ(d:p∈gL e):∃n,n<4/\p=bP e n:=by
 simp only[gL,cc,fI,hz]at d;rcases d with d|d|d|d
 ·exact⟨0,by decide,d⟩
 ·exact⟨1,by decide,d⟩
 ·exact⟨2,by decide,d⟩
 ·exact⟨3,by decide,d⟩
def iq.one(SM:iq RX){g e p:aC}(a:g∈RX)(b:e∈RX)(t:p∈gL g)(A:p∈gL e):g=e:=by
 have o:=SM.par g a e b;rw[Ex]at t A;exact dK (by omega) (by omega)
def aN(m p:aC):aC:=((p.1-(p.1-m.1)%2,p.2-(p.2-m.2)%2))
def d0(m p:aC):Nat:=(if (p.1-m.1)%2=0 then (if (p.2-m.2)%2=0 then 0 else 1) else (if (p.2-m.2)%2=0 then 3 else 2))
def OH{m:aC}(t:(e.1-m.1)%2=0)(A:(e.2-m.2)%2=0){n:Nat}(a:n<4):aN m (bP e n)=e/\d0 m (bP e n)=n:=by
 match n,a with
 |0,_=>
  refine⟨dK ?_ ?_,?_⟩
  ·simp only[aN,bP];lia
  ·simp only[aN,bP];lia
  ·simp only[d0,bP];rw[aD t,aD A]
 |1,_=>
  refine⟨dK ?_ ?_,?_⟩
  ·simp only[aN,bP];lia
  ·simp only[aN,bP];lia
  ·simp only[d0,bP];rw[aD t,aG ⋯]
 |2,_=>
  refine⟨dK ?_ ?_,?_⟩
  ·simp only[aN,bP];lia
  ·simp only[aN,bP];lia
  ·simp only[d0,bP];rw[aG ⋯,aG ⋯]
 |3,_=>
  refine⟨dK ?_ ?_,?_⟩
  ·simp only[aN,bP];lia
  ·simp only[aN,bP];lia
  ·simp only[d0,bP];rw[aG ⋯,aD A]
def et(o:aC×Nat):aC:=(bP o.1 o.2)
def hb(RX:List aC)(c:bT):Prop:=(c.1∈RX/\c.2∈RX/\(c.2=(c.1.1,c.1.2+2)\/c.2=(c.1.1+2,c.1.2)))
def Ij(a:∀c∈R8,hb RX c){g e:aC}(d:eC R8 g e=aa):g∈RX/\e∈RX:=by
 rcases fK d with d|d
 ·exact⟨(a _ d).1,(a _ d).2.1⟩
 ·exact⟨(a _ d).2.1,(a _ d).1⟩
def NC(a:∀c∈R8,hb RX c){e:aC}(b:e∈RX)(n:Nat):(aL R8 (e,n)).1∈RX:=by
 unfold aL;split
 ·rename_i d;exact (Ij a d).2
 ·exact b
theorem Bg{Sj:Type}[DecidableEq Sj]:∀{J i:List Sj},J.Nodup->(∀f∈J,f∈i)->i.length<=J.length->J.Perm i
 |[],i,_,_,d=>by rw[xv.mp (Nat.le_zero.mp d)]
 |f::J,i,aj,h,d=>by
  have b:=h f (.head _);let@⟨e,S8⟩:=f9.mp aj;have o:=C6 b;refine .trans (.cons f (Bg S8 (λD a=>(vY (λc=>e (by rw[<-c];exact a))).mpr<|h D<|.tail _ a) ?_)) o.symm;have:=o.length_eq;simp at this d;lia
def cells(RX:List aC):List aC:=(RX.flatMap gL)
def zB:p∈cells RX↔∃e∈RX,∃n,n<4/\p=bP e n:=by
 unfold cells;rw[sX];constructor
 ·rintro⟨e,a,d⟩;exact⟨e,a,OZ d⟩
 ·rintro⟨e,a,n,b,rfl⟩;exact⟨e,a,y8 e b⟩
def Mb(e:aC):(gL e).Nodup:=by
 let⟨f,D⟩:=e;simp[gL,f9];lia
theorem tU{Sj SX:Type}{F:Sj->List SX}:∀{J:List Sj},J.Nodup->(∀g∈J,(F g).Nodup)->(∀g∈J,∀e∈J,∀f,f∈F g->f∈F e->g=e)->(J.flatMap F).Nodup
 |[],_,_,_=>by simp
 |g::J,aj,t,A=>by
  let@⟨d,S8⟩:=f9.mp aj;rw[k_,c1];refine⟨t g<|.head _,tU S8 (λe a=>t e<|.tail _ a)<|λe a p h=>A e (.tail _ a) p<|.tail _ h,λf i D b c=>?_⟩;let⟨@e,a,b⟩:=sX.mp b;subst c;have:=A g (.head _) e (.tail _ a) f i b;subst this;exact d a
def iq.Es(SM:iq RX):(cells RX).Nodup:=tU SM.aj (λe W=>Mb e) λg a e b f t A=>SM.one a b t A
theorem qc:∀RX:List aC,(cells RX).length=4*RX.length
 |[]=>rfl
 |e::RX=>by
  have:=qc RX;unfold cells at *;rw[k_,d4,this];simp[gL];lia
def ve{Sj SX:Type}{F:Sj->SX}{J:List Sj}(aj:J.Nodup)(d:∀g∈J,∀e∈J,F g=F e->g=e):(J.map F).Nodup:=by
 unfold List.Nodup;rw[List.pairwise_map];exact JQ (λa b v c=>v<|d _ a _ b c) aj
end G
namespace L2
section
variable{k R_:aW}
variable{x:ai}
def bE{L:aA ai}(d:L k=Z (x,k)):af L k=Z (.cU x,k):=dM d
variable{f:bz}
def eL{L:aA bz}{d:aA (List bz)}{z:List bz}(a:L k=Z (f,k))(b:d k=Z (z,k)):av L d k=Z (f::z,k):=dR a b
variable{SJ:ai->ai->Option ai}{S2 SV:aA bz}{D:bz}{Sx SK:ai}
def df(a:S2 k=Z (f,k))(b:SV k=Z (D,k))(c:du k f=Z Sx)(d:du k D=Z SK)(e:SJ Sx SK=Z x):az SJ S2 SV k=Z (x,k):=h4 a b c d e
def es(a:SJ Sx SK=Z x)(b:S2 k=Z (f,k):=by rfl)(c:SV k=Z (D,k):=by rfl)(d:du k f=Z Sx:=by rfl)(e:du k D=Z SK:=by rfl):az SJ S2 SV k=Z (x,k):=h4 b c d e a
variable{L:aA (List bz)}{M:List bz}{E:List ai}
def mq{SJ:List ai->Option ai}(a:L k=Z (M,k))(b:ht k M=Z E)(c:SJ E=Z x):bX SJ L k=Z (x,k):=pF a b c
def gH{L:aA ai}{e:Bool}(c:L k=Z (.im<|.aN e,k)):bS L k=Z (e,k):=xp c
def uc(a:L k=Z (M,k))(b:d2 M k=Z (E,k))(c:E.length<=100000)(n:qq E=x):dz L k=Z (x,k):=Pu a b c n
def Kg(a:L k=Z (M,k))(b:d2 M k=Z (E,k))(c:E.length<=100000)(n:qj E=x):fO L k=Z (x,k):=GB a b c n
def xr{a:Nat}{L:aA ai}(c:L k=Z (x,k))(d:a<k.length)(n:k.set a (Z x)=R_):cy a L k=Z (.aL,R_):=iT c d n
end
end L2
namespace G
open L2
variable{R8 O SH R:List bT}{m p e:aC}{ak RX:List aC}{Sx h:Int}{o:aC->aC}{L:aA ai}{R_ k:aW}{a:Nat}
def v7{RX:List (Int×Int)}{m:Int×Int}(d:RX.length<100000):hI (bb RX) [.im (ar m)]=Z (.im .aX,bb<|RX++[m]):=by
 have:hI (bb RX) [.im (ar m)]=Z (.im .aX,.lst<|RX.map ar++[ar m]):=GG (by rw[bt];exact d);rw[this];simp
def CZ(RX:List (Int×Int)):dw [bb RX]=Z (aQ (RX.length:Int)):=by
 show Z (aQ ((RX.map ar).length:Int))=_;rw[bt]
def l0(RX:List (Int×Int)):dw [aU RX]=Z (aQ (RX.length:Int)):=by
 show Z (aQ ((RX.map ar).length:Int))=_;rw[bt]
def Ds{S2 SV Tc:aA bz}{f D C:bz}{g e p:Int}(b:S2 k=Z (f,k))(c:SV k=Z (D,k))(d:du k f=Z (aQ g))(a:du k D=Z (aQ e))(h:Tc k=Z (C,k))(i:du k C=Z (aQ p):=by rfl):bS (iA fZ fZ S2 SV Tc) k=Z (decide (g<=e)&&decide (e<=p),k):=by
 unfold bS iA;rw[b];show ((SV k).bind _).bind _=_;rw[c];show ((du k f).bind _).bind _=_;rw[d];show ((du k D).bind _).bind _=_;rw[a];show ((if decide (g<=e)=aa then _ else _):Option (ai×aW)).bind _=_;cases decide (g<=e) with
 |false=>rfl
 |true=>
  rw[aD rfl];show ((Tc k).bind _).bind _=_;rw[h];show ((du k D).bind _).bind _=_;rw[a];show ((du k C).bind _).bind _=_;rw[i];rfl
structure mY(i:Int)(RX:List aC):Prop where
 ne:RX≠[]
 aj:RX.Nodup
 len:(RX.length:Int)<=i
 nT:∀e∈RX,0<=e.1/\e.1<=29/\0<=e.2/\e.2<=29
 par:∀g∈RX,∀e∈RX,(g.1-e.1)%2=0/\(g.2-e.2)%2=0
 con:∀o:aC->aC,(∀g∈RX,∀e∈RX,(e=(g.1,g.2+2)\/e=(g.1+2,g.2))->o g=o e)->∀g∈RX,∀e∈RX,o g=o e
def lq:List aC:=([(0,2),(2,0),(0,-2),(-2,0)])
def mY.add{i:Int}{RX:List aC}(L:mY i RX){p x:aC}(n:p∈RX)(k:x∈lq)(r:(p.1+x.1,p.2+x.2)∉RX)(y:(RX.length:Int)<i)(s:0<=p.1+x.1/\p.1+x.1<=29/\0<=p.2+x.2/\p.2+x.2<=29):mY i (RX++[(p.1+x.1,p.2+x.2)]):=by
 have SK:x.1%2=0/\x.2%2=0:=by
  simp only[lq,cc,fI,hz]at k;rcases k with d|d|d|d<;>subst d<;>exact⟨by decide,by decide⟩
 refine⟨by simp,c1.mpr ⟨L.aj,eY _ _,λf b D u c=>r (by rw[cm.mp u]at c;rw[<-c];exact b)⟩,by simp;lia,λe a=>?_,λg h e a=>?_,λo j g h e a=>?_⟩
 ·rcases dJ.mp a with d|d
  ·exact L.nT e d
  ·rw[cm.mp d];exact s
 ·have M:∀f∈RX,(f.1-(p.1+x.1))%2=0/\(f.2-(p.2+x.2))%2=0:=λf b=>by
   have:=L.par f b p n;exact⟨⋯,⋯⟩
  rcases dJ.mp h with t|t<;>rcases dJ.mp a with A|A
  ·exact L.par g t e A
  ·rw[cm.mp A];exact M g t
  ·rw[cm.mp t];have:=M e A;exact⟨by show ((p.1+x.1)-e.1)%2=0;lia,by show ((p.2+x.2)-e.2)%2=0;lia⟩
  ·rw[cm.mp t,cm.mp A];exact⟨by simp,by simp⟩
 ·have v:=L.con o λg h e a=>j g (ea _ h) e (ea _ a);have l:p∈RX++[(p.1+x.1,p.2+x.2)]:=ea _ n;have m:(p.1+x.1,p.2+x.2)∈RX++[(p.1+x.1,p.2+x.2)]:=di _ (.head _);have w:o p=o (p.1+x.1,p.2+x.2):=by
   simp only[lq,cc,fI,hz]at k;rcases k with d|d|d|d
   ·subst d;exact j _ l _ m (.inl (dK ↥0 ↥0))
   ·subst d;exact j _ l _ m (.inr (dK ↥0 ↥0))
   ·subst d;exact (j _ m _ l (.inl (dK ↥0 (by simp;lia)))).symm
   ·subst d;exact (j _ m _ l (.inr (dK (by simp;lia) ↥0))).symm
  have q:∀f∈RX++[(p.1+x.1,p.2+x.2)],o f=o p:=λf b=>by
   rcases dJ.mp b with d|d
   ·exact v f d p n
   ·rw[cm.mp d];exact w.symm
  rw[q g h,q e a]
def pG{g:aC}:bh (ar g) (ar e)=aa↔g.1<e.1\/(g.1=e.1/\g.2<e.2):=by
 let⟨f,D⟩:=g;let⟨I,s⟩:=e;show (if X.beq (.int f) (.int I)=aa then (if X.beq (.int D) (.int s)=aa then ay else decide (D<s)) else decide (f<I))=aa↔_;have c:∀a r:Int,X.beq (.int a) (.int r)=decide (a=r):=λa r=>by
  show (a==r)=_;by_cases d:a=r<;>simp[d]
 rw[c,c];by_cases t:f=I<;>by_cases A:D=s<;>simp[t,A]
def eU(J:List aC):Prop:=((J.map ar).Pairwise (λg e=>bh g e=aa))
def Dd{R:List aC}(aj:R.Nodup)(c:R.length<=1000):∃B:List aC,B.Perm R/\ip (R.map ar)=Z (bb B)/\eU B:=by
 have a:=FD aj c;let⟨@B,Sr,b⟩:=y9 (js<|R.map ar);refine⟨B,Sr,?_,?_⟩
 ·unfold ip;rw[aD (p6.mpr a),b]
 ·unfold eU;rw[<-b];exact xq a.1.3 a.1.2
theorem Dk:∀{f:List X},(∀x∈f,∃u,x=.tup u)->hG [.lst f]=ip f
 |[],_=>rfl
 |x::f,d=>by
  let⟨@u,rfl⟩:=d x (.head _);rfl
def Ff{R B:List aC}(b:k[a]?=Z (Z<|bb R))(d:ip (R.map ar)=Z (bb B)):bX hG (av (aq a) aH) k=Z (bb B,k):=by
 have c:hG [bb R]=Z (bb B):=by
  rw[Dk,d];intro x e;let⟨@p,W,rfl⟩:=dS.mp e;exact⟨_,rfl⟩
 simp -implicitDefEqProofs only[bX,av,aq,rb,b,gg,o5,qU,rz,x4,qz,c]
def nK{f:List X}(d:L k=Z (.lst f,R_)):bX hU (av (af L) aH) k=Z (.im<|.tup f,R_):=by
 simp -implicitDefEqProofs only[bX,av,af,rb,d,gg,o5,qU,rz,DY,hU,m7]
def b7(c:bT):X:=(.tup (hx c))
abbrev da(U:List bT):ai:=.lst (U.map b7)
def rg:X->bT
 |.tup [g,e]=>(mI g,mI e)
 |_=>((0,0),(0,0))
def uf(c:bT):rg (b7 c)=c:=rfl
def Ih{g e:bT}(d:b7 g=b7 e):g=e:=by rw[<-uf g,d,uf]
theorem FY:∀(J:List X) (R:List bT),(∀f∈J,f∈R.map b7)->J=(J.map rg).map b7
 |[],_,_=>rfl
 |f::J,R,d=>by
  let⟨@o,W,c⟩:=dS.mp (d f<|.head _);rw[bY,bY,<-FY J R λD a=>d D<|.tail _ a,<-c,uf]
def Iq{J:List X}(d:J.Perm (R.map b7)):∃B:List bT,B.Perm R/\J=B.map b7:=by
 refine⟨J.map rg,?_,FY J R λf a=>d.mem_iff.mp a⟩;have:=t8 rg d;rw[g8]at this;have c:(rg ∘ b7:bT->bT)=id:=funext uf;rw[c,zG]at this;exact this
def Jc(aj:R.Nodup)(a:R.length<=1000):iI (R.map b7):=by
 refine⟨⟨by rw[bt];exact a,λg b e d=>?_,?_⟩,.inr λx h=>?_⟩
 ·let⟨@f,W,rfl⟩:=dS.mp b;let⟨@D,W,rfl⟩:=dS.mp d;rfl
 ·exact DX b7 (λg e v c=>v<|Ih c) aj
 ·let⟨@f,W,rfl⟩:=dS.mp h;rfl
def Qo(aj:R.Nodup)(d:R.length<=1000)(f:k[a]?=Z (Z<|da R)):∃B:List bT,B.Perm R/\bX hG (av (aq a) aH) k=Z (da B,k)/\(B.map b7).Pairwise (λg e=>bh g e=aa):=by
 have b:=Jc aj d;let⟨@B,Sr,c⟩:=Iq (js<|R.map b7);refine⟨B,Sr,?_,by rw[<-c];exact xq b.1.3 b.1.2⟩;have h:hG [da R]=Z (da B):=by
  rw[Dk]
  ·unfold ip;rw[aD (p6.mpr b),c]
  ·intro x i;let⟨@p,W,rfl⟩:=dS.mp i;exact⟨_,rfl⟩
 simp -implicitDefEqProofs only[bX,av,aq,rb,f,gg,o5,qU,rz,x4,qz,h]
def gO(RX:List aC)(e:aC):List bT:=(([(e.1,e.2+2),(e.1+2,e.2)].filter λm=>decide (m∈RX)).map λm=>(e,m))
def fq(RX:List aC):List bT:=(RX.flatMap (gO RX))
def FA{c:bT}:c∈fq RX↔hb RX c:=by
 unfold fq gO hb;simp only[sX,dS,sE,cc,fI,hz,sq];constructor
 ·rintro⟨e,a,m,⟨b,A⟩,rfl⟩;exact⟨a,A,b⟩
 ·rintro⟨t,A,d⟩;exact⟨c.1,t,c.2,⟨d,A⟩,rfl⟩
def w0(RX:List aC)(e:aC):(gO RX e).length<=2:=by
 unfold gO;rw[bt];exact CQ _ _
theorem zT(RX:List aC):∀J:List aC,(J.flatMap<|gO RX).length<=2*J.length
 |[]=>bl _
 |e::J=>by
  rw[k_,d4,dA];have:=zT RX J;have:=w0 RX e;lia
def QP(aj:RX.Nodup):(fq RX).Nodup:=by
 refine tU aj (λe W=>?_) λg W e W f t A=>?_
 ·unfold gO;refine ve (Jl _ ?_) λg W e W c=>by injection c
  simp;lia
 ·unfold gO at t A;let⟨@m,W,rfl⟩:=dS.mp t;let⟨@SG,W,c⟩:=dS.mp A;injection c with a b;exact a.symm
def d5(RX:List aC)(o:aC->aC):List (List X×X):=(RX.map λe=>(cZ e,ar<|o e))
theorem FO:∀(J a:List (List X×X)),((a++J).map (·.1)).Nodup->J.foldl (λg o=>iL g o.1 o.2) a=a++J
 |[],a,_=>by simp
 |o::J,a,aj=>by
  have d:¬ (a.any λb=>decide (b.1=o.1))=aa:=λC=>by
   let⟨@q,e,c⟩:=od.mp C;have c:=fK c;rw[gq,c1]at aj;exact aj.2.2 q.1 (p3 e) o.1 ↥0 c
  rw[lh,show iL a o.1 o.2=a++[o] by unfold iL;rw[aG d],FO J (a++[o]) (by rw[bg];exact aj),bg];rfl
def OT(aj:RX.Nodup)(o:aC->aC):ly (d5 RX o)=d5 RX o:=by
 unfold ly;rw[FO _ [] ?_,iC];unfold d5;rw[iC,g8];exact ve aj λg W e W c=>ov c
def PF(o:aC->aC){p:aC}(d:p∈RX):ey (d5 RX o) (cZ p)=Z (ar<|o p):=by
 induction RX with
 |nil=>cases d
 |cons e RX a=>
  unfold ey d5;rw[bY,iW];by_cases c:e=p
  ·subst c;simp
  ·rw[show decide (((cZ e,ar<|o e):List X×X).1=cZ p)=ay from eX λC=>c<|ov C];exact a ((cc.mp d).resolve_left λC=>c C.symm)
def JB(RX:List aC)(o:aC->aC):oD (RX.map λe=>.tup [ar e,ar<|o e])=Z (d5 RX o):=by
 unfold d5;induction RX with
 |nil=>rfl
 |cons p u a=>
  rw[bY,sW,oD,a];rfl
def IB(RX:List aC)(o:aC->aC):((d5 RX o).all λq=>X.keys 7 q.1)=aa:=by
 unfold d5;rw[w7,j_];intro p W;rfl
def HX(aj:RX.Nodup)(a:RX.length<=1000)(d:L k=Z (.lst<|RX.map λe=>.tup [ar e,ar<|o e],R_)):bX oB (av (af L) aH) k=Z (.aO<|d5 RX o,R_):=by
 have J:(d5 RX o).length<=1000:=by unfold d5;rw[bt];exact a
 have m:=IB RX o;have F:=OT aj o;have u:=JB RX o;simp -implicitDefEqProofs only[bX,av,af,d,rb,gg,o5,qU,DY,rz,oB,u,m,J,F,and_self,ia]
inductive jR (RX:List aC):List bT->(aC->aC)->Prop where
 |nil:jR RX [] λe=>e
 |add {SH:List bT}{o:aC->aC}{c:bT}:jR RX SH o->hb RX c->o c.1≠o c.2->jR RX (SH++[c]) λe=>if o e=o c.1 then o c.2 else o e
def jR.vP(n:jR RX SH o):∀c∈SH,hb RX c:=by
 induction n with
 |nil=>intro c d;cases d
 |add n t A a=>
  intro c d;rcases dJ.mp d with d|d
  ·exact a c d
  ·rw[cm.mp d];exact t
structure jW(RX:List aC)(O SH:List bT)(o:aC->aC):Prop where
 hR:jR RX SH o
 aj:(SH++O).Nodup
 len:SH.length+O.length<=80
 lE:∀c∈O,hb RX c
 v_:∀c,hb RX c->c∈O\/o c.1=o c.2
def jW.drop(Q:jW RX O SH o){r:Nat}{c:bT}(e:O[r]?=Z c)(g:o c.1=o c.2):jW RX (O.eraseIdx r) SH o:=by
 let⟨@h,i⟩:=e4.mp e;refine⟨Q.hR,Q.aj.sublist<|Oi (List.eraseIdx_sublist _ _) _,?_,λf b=>Q.lE f<|Cp b,λf b=>?_⟩
 ·have:=Q.len;rw[xH,aD h];lia
 ·rcases Q.v_ f b with d|d
  ·by_cases C:f=c
   ·rw[C];exact .inr g
   ·left;rw[List.mem_eraseIdx_iff_getElem?];let⟨@a,RT⟩:=List.mem_iff_getElem?.mp d;exact⟨a,λq=>C (by rw[q,e]at RT;exact (Option.some.inj RT).symm),RT⟩
  ·exact .inr d
theorem oc{Sj:Type}:∀{J:List Sj}{r:Nat} (d:r<J.length),(J[r]::J.eraseIdx r).Perm J
 |g::J,0,_=>List.Perm.refl _
 |g::J,r+1,d=>(List.Perm.swap _ _ _).trans (.cons g<|oc<|yD d)
def jW.take(Q:jW RX O SH o){r:Nat}{c:bT}(b:O[r]?=Z c)(i:o c.1≠o c.2):jW RX (O.eraseIdx r) (SH++[c]) (λe=>if o e=o c.1 then o c.2 else o e):=by
 let⟨@g,j⟩:=e4.mp b;have h:(c::O.eraseIdx r).Perm O:=by
  rw[<-j];exact oc g
 refine⟨.add Q.hR (Q.lE c<|e0 b) i,?_,?_,λf a=>Q.lE f<|Cp a,λf a=>?_⟩
 ·rw[bg];exact (dp SH h).nodup_iff.mpr Q.aj
 ·have:=Q.len;rw[xH,aD g,d4,mD];omega
 ·by_cases C:f=c
  ·right;subst C;show (if o f.1=o f.1 then _ else _)=(if o f.2=o f.1 then _ else _);rw[aD rfl];split<;>rfl
  ·rcases Q.v_ f a with d|d
   ·left;rcases cc.mp (h.mem_iff.mpr d) with d|d
    ·exact absurd d C
    ·exact d
   ·right;show (if o f.1=o c.1 then _ else _)=(if o f.2=o c.1 then _ else _);rw[d]
def Cv(g e:aC):dD (.im<|ar g) (.im<|ar e)=Z (.im<|.aN<|!decide (g=e)):=by
 have d:=nM g e;show (if X.a5 8 (ar g)=aa then Z (ai.im<|.aN<|!b3 (ar g) (ar e)) else V)=_;rw[aD (rS g),d]
def Qm(g e:aC):iH (.im<|ar g) (.im<|ar e)=Z (.im<|.aN<|decide (g=e)):=by
 have d:=nM g e;show (if X.a5 8 (ar g)=aa then Z (ai.im<|.aN<|b3 (ar g)<|ar e) else V)=_;rw[aD (rS g),d]
def uF(o:aC->aC){p:aC}(d:p∈RX):bo (.aO<|d5 RX o) (.im<|ar p)=Z (.im<|ar<|o p):=by
 have L:=PF o d;show (if X.keys 7 (cZ p)=aa then (ey (d5 RX o)<|cZ p).map ai.im else V)=_;rw[aD (r9 p),L];rfl
def Az(RX:List bT):dw [da RX]=Z (aQ (RX.length:Int)):=by
 show Z (aQ ((RX.map b7).length:Int))=_;rw[bt]
def ph(R:dq)(a r h Sx b c:Int):Prop:=(∃g f D,s6 R.b_ R.gj [.int a,.int r]=Z g/\jv R.kt g 0=Z (.fn f)/\jv R.kt g 1=Z (.fn D)/\jv R.kt f 0=Z (.int h)/\jv R.kt f 1=Z (.int Sx)/\jv R.kt D 0=Z (.int b)/\jv R.kt D 1=Z (.int c))
structure oO(R:dq):Prop where
 hN:ph R 0 0 (-1) 0 0 1
 cw:ph R 0 1 0 1 1 0
 cp:ph R 1 1 1 0 0 (-1)
 c_:ph R 1 0 0 (-1) (-1) 0
def yI{R:dq}{f:ag}{i:Int}(a:jv R.kt f 0=Z (.int h))(t:jv R.kt f 1=Z (.int Sx))(k:0<=i)(l:i<10):kI R [.im (ar p),.im<|.fn f,aQ i]=Z (.im<|ar (p.1+h*i,p.2+Sx*i),[.im (ar p),.im<|.fn f,aQ i]):=by
 have b:gA h i=aa:=mF ⋯ ⋯;have c:gA Sx i=aa:=mF ⋯ ⋯;have d:dH R.kt R.b_ (.im<|ar p) (aQ 0)=Z (aQ p.1):=rfl;have e:dH R.kt R.b_ (.im<|ar p) (aQ 1)=Z (aQ p.2):=rfl;have g:dH R.kt R.b_ (.im<|.fn f) (aQ 0)=Z (aQ h):=congrArg (Option.map ai.im) a;have j:dH R.kt R.b_ (.im<|.fn f) (aQ 1)=Z (aQ Sx):=congrArg (Option.map ai.im) t;unfold kI Fz;exact j0 [Z (.im<|ar p),Z<|.im<|.fn f,Z<|aQ i] rfl (fB<|uc (eL (bE<|df (bE<|es d) (bE<|df (bE<|es g) rfl rfl rfl<|D1 b) rfl rfl rfl)<|eL (bE<|df (bE<|es e) (bE<|df (bE<|es j) rfl rfl rfl<|D1 c) rfl rfl rfl) rfl) rfl (pL rfl) rfl) rfl
def NX(c:ak[0]?=Z m):p4 [aU ak,.im<|ar p]=Z (.im<|ar<|aN m p,[aU ak,.im<|ar p]):=by
 have y:dQ (ak.map ar) 0=Z (ar m):=ru ∅ ⇑c;have a:bo (.im<|ar p) (aQ 0)=Z (aQ p.1):=rfl;have b:bo (.im<|ar p) (aQ 1)=Z (aQ p.2):=rfl;have d:bo (.im<|ar m) (aQ 0)=Z (aQ m.1):=rfl;have bA:bo (.im<|ar m) (aQ 1)=Z (aQ m.2):=rfl;have Sw:bo (aU ak) (aQ 0)=Z (.im<|ar m):=by
  show (dQ (ak.map ar) 0).map ai.im=_;rw[y];rfl
 unfold p4 ED;exact j0 [Z (aU ak),Z<|.im<|ar p] rfl (fB (uc (eL (bE (df (bE<|es a) (bE (df (bE<|df (bE<|es a) (bE<|df (bE<|es Sw) rfl rfl rfl d) rfl rfl rfl) rfl rfl rfl (xk ∅))) rfl rfl rfl)) (eL (bE (df (bE<|es b) (bE (df (bE<|df (bE<|es b) (bE<|df (bE<|es Sw) rfl rfl rfl bA) rfl rfl rfl) rfl rfl rfl (xk ∅))) rfl rfl rfl)) rfl)) rfl (pL rfl) rfl)) rfl
def DI(c:bT):X.a5 8 (b7 c)=aa:=rfl
theorem Bq:∀RY:List bT,X.c5 8 (RY.map b7)=aa
 |[]=>rfl
 |o::u=>by rw[bY,X.c5,DI,Bq u];rfl
def vz(g e:bT):b3 (b7 g) (b7 e)=decide (g=e):=by
 show (b3 (ar g.1) (ar e.1)&&(b3 (ar g.2) (ar e.2)&&aa))=_;rw[nM,nM];let⟨a,S1⟩:=g;let⟨bA,b0⟩:=e;by_cases t:a=bA<;>by_cases A:S1=b0<;>simp[t,A]
def Jo(RY:List bT)(c:bT):gD (b7 c) (.im<|.tup<|RY.map b7)=Z (decide (c∈RY)):=by
 rw[Io,DI,Bq,s_];show (if (aa&&aa)=aa then _ else _)=_;rw[aD (show (aa&&aa)=aa from rfl)];congr 1;rw[iX,od,fi];constructor
 ·rintro⟨f,a,d⟩;have:decide (f=c)=aa:=by rw[<-vz];exact d
  rw[<-fK this];exact a
 ·intro d;refine⟨c,d,?_⟩;show b3 (b7 c) (b7 c)=aa;rw[vz];exact er rfl
def nD(R8:List bT):Prop:=(∀c∈R8,c.1.1<c.2.1\/(c.1.1=c.2.1/\c.1.2<c.2.2))
def nD.of(d:∀c∈R8,hb RX c):nD R8:=λc a=>by
 have:=(d c a).2.2;rcases this with d|d
 ·rw[d];exact .inr ⟨rfl,by show c.1.2<c.1.2+2;lia⟩
 ·rw[d];exact .inl (by show c.1.1<c.1.1+2;lia)
def Oa(a:nD R8)(g e:aC):decide (il g e∈R8)=eC R8 g e:=by
 unfold eC;rw[iX,fi,fi];by_cases t:bh (ar g) (ar e)=aa
 ·have b:=pG.mp t;have A:¬ bh (ar e) (ar g)=aa:=λC=>by have:=pG.mp C;lia
  have c:il g e=(g,e):=by unfold il;rw[aD t,aG A]
  rw[c];constructor
  ·exact .inl
  ·rintro (d|d)
   ·exact d
   ·have:=a _ d;simp only at this;lia
 ·by_cases A:bh (ar e) (ar g)=aa
  ·have f:=pG.mp A;have c:il g e=(e,g):=by unfold il;rw[aG t,aD A]
   rw[c];constructor
   ·exact .inr
   ·rintro (d|d)
    ·have:=a _ d;simp only at this;lia
    ·exact d
  ·have b:=λC=>t (pG.mpr C);have f:=λC=>A (pG.mpr C);have c:g=e:=dK ⋯ ⋯;subst c;have c:il g g=(g,g):=by unfold il;rw[aG t]
   rw[c];exact⟨.inl,λd=>d.elim id id⟩
def G5{R:dq}{a r d j:Int}(s:ph R a r h Sx d j)(v:ak[0]?=Z m)(w:aN m p=e)(t:p.1-e.1=a)(A:p.2-e.2=r)(y:nD R8):
  hY R [aU ak,.im<|.tup<|R8.map b7,.im<|ar p]=Z (.im<|ar<|if eC R8 e (e.1+h*2,e.2+Sx*2)=aa then (p.1+h*1,p.2+Sx*1) else (p.1+d*1,p.2+j*1),[aU ak,.im<|.tup<|R8.map b7,.im<|ar p]):=by
 let⟨g,f,@D,hN,cw,cp,c_,l,z,B⟩:=s;have n:=NX (p:=p) v;rw[w]at n;have E:=yI (p:=e) (i:=2) c_ l ∅ ∅;have F:=yI (p:=p) (i:=1) c_ l ∅ ∅;have H:=yI (p:=p) (i:=1) z B ∅ ∅;have I:dH R.kt R.b_ (.im<|ar p) (aQ 0)=Z (aQ p.1):=rfl;have J:dH R.kt R.b_ (.im<|ar p) (aQ 1)=Z (aQ p.2):=rfl;have L:dH R.kt R.b_ (.im<|ar e) (aQ 0)=Z (aQ e.1):=rfl;have bA:dH R.kt R.b_ (.im<|ar e) (aQ 1)=Z (aQ e.2):=rfl;have aY:dH R.kt R.b_ (.im<|.fn R.gj) (.im<|.tup [.int a,.int r])=Z (.im<|.fn g):=by
  show (if X.keys 7 [.int a,.int r]=aa then (s6 R.b_ R.gj [.int a,.int r]).map λx=>ai.im (.fn x) else V)=_;rw[aD (show X.keys 7 [.int a,.int r]=aa from rfl),hN];rfl
 have o:dH R.kt R.b_ (.im<|.fn g) (aQ 0)=Z (.im<|.fn f):=by
  show (jv R.kt g 0).map ai.im=_;rw[cw];rfl
 have M:dH R.kt R.b_ (.im<|.fn g) (aQ 1)=Z (.im<|.fn D):=by
  show (jv R.kt g 1).map ai.im=_;rw[cp];rfl
 have le:=P9 e (e.1+h*2,e.2+Sx*2);have q:=Jo R8 (il e (e.1+h*2,e.2+Sx*2));rw[Oa y]at q;have N:oM (.im<|.tup<|hx<|il e (e.1+h*2,e.2+Sx*2)) (.im<|.tup<|R8.map b7)=Z (.im<|.aN<|eC R8 e (e.1+h*2,e.2+Sx*2)):=by
  show (gD (b7<|il e (e.1+h*2,e.2+Sx*2))<|.im<|.tup<|R8.map b7).map (λu=>ai.im<|.aN u)=_;rw[q];rfl
 unfold hY D9;obtain⟨k,b⟩:∃k:aW,k=[Z (aU ak),Z<|.im<|.tup<|R8.map b7,Z<|.im<|ar p,Z<|.im<|ar e,Z<|.im<|.fn g]:=⟨_,rfl⟩;have O:cy 3 (bV 2 G.p4<|av (aq 0)<|av (aq 2) aH) [Z (aU ak),Z<|.im<|.tup<|R8.map b7,Z<|.im<|ar p,V,V]=Z (.aL,[Z (aU ak),Z<|.im<|.tup<|R8.map b7,Z<|.im<|ar p,Z<|.im<|ar e,V]):=by
  exact iT (eN rfl rfl rfl n) (show 3<5 by decide) rfl
 have P:cy 4 (az (dH R.kt R.b_) (af<|aF<|.fn R.gj)<|af<|dz<|av (af<|az hi (af<|az (dH R.kt R.b_) (aq 2)<|af<|aF<|.int 0)<|af<|az (dH R.kt R.b_) (aq 3)<|af<|aF<|.int 0)<|av (af<|az hi (af<|az (dH R.kt R.b_) (aq 2)<|af<|aF<|.int 1)<|af<|az (dH R.kt R.b_) (aq 3)<|af<|aF<|.int 1) aH) [Z (aU ak),Z<|.im<|.tup<|R8.map b7,Z<|.im<|ar p,Z<|.im<|ar e,V]=Z (.aL,k):=by
  rw[b];subst t;subst A;exact xr (df rfl (bE<|uc (eL (bE<|df (bE<|es I) (bE<|es L) rfl rfl rfl)<|eL (bE<|df (bE<|es J) (bE<|es bA) rfl rfl rfl) rfl) rfl (pL rfl) rfl) rfl rfl aY) (show 4<5 by decide) rfl
 have c:bS (az oM (af<|bV 2 G.qC<|av (aq 3)<|av (af<|bV 3 (G.kI R)<|av (aq 3)<|av (af<|az (dH R.kt R.b_) (aq 4)<|af<|aF<|.int 0)<|av (af<|aF<|.int 2) aH) aH)<|aq 1) k=Z (eC R8 e (e.1+h*2,e.2+Sx*2),k):=by
  rw[b];exact xp (h4 (dM<|eN (dR rfl<|dR (dM<|eN (dR rfl<|dR (dM<|h4 rfl rfl rfl rfl o) rfl) rfl rfl E) rfl) rfl rfl le) rfl rfl rfl N)
 have Q:dk (bV 3 (G.kI R)<|av (aq 2)<|av (af<|az (dH R.kt R.b_) (aq 4)<|af<|aF<|.int 0)<|av (af<|aF<|.int 1) aH) k=Z (.dP<|.im<|ar (p.1+h*1,p.2+Sx*1),k):=by
  rw[b];exact fB (tA (eL rfl<|eL (bE<|es o) rfl) rfl rfl F rfl)
 have S:dk (bV 3 (G.kI R)<|av (aq 2)<|av (af<|az (dH R.kt R.b_) (aq 4)<|af<|aF<|.int 1)<|av (af<|aF<|.int 1) aH) k=Z (.dP<|.im<|ar (p.1+d*1,p.2+j*1),k):=by
  rw[b];exact fB (tA (eL rfl<|eL (bE<|es M) rfl) rfl rfl H rfl)
 refine j0 k rfl ((dB O).trans<|(dB P).trans ?_) (by rw[b];rfl);by_cases C:eC R8 e (e.1+h*2,e.2+Sx*2)=aa
 ·rw[aD C];rw[C]at c;exact Ks ((wa c).trans Q)
 ·rw[aG C];rw[Bool.not_eq_true]at C;rw[C]at c;exact (dB<|t6 c).trans S
def Y(e:aC):Nat->aC
 |0=>(e.1-1,e.2)
 |1=>(e.1,e.2+1)
 |2=>(e.1+1,e.2)
 |_=>(e.1,e.2-1)
def M8(R8:List bT)(e:aC){n:Nat}(a:n<4):et (aL R8 (e,n))=if eC R8 e (eh e n)=aa then Y (bP e n) n else bP e ((n+1)%4):=by
 unfold aL;dsimp only;split
 ·match n,a with
  |0,_=>simp[et,bP,eh,Y];lia
  |1,_=>simp[et,bP,eh,Y];lia
  |2,_=>simp[et,bP,eh,Y];lia
  |3,_=>simp[et,bP,eh,Y];lia
 ·rfl
def Bv{R:dq}(c:oO R){RX ak:List aC}{R8:List bT}{e m:aC}{n:Nat}(SM:iq RX)(i:ak[0]?=Z m)(j:m∈RX)(k:e∈RX)(f:n<4)(l:nD R8):
  hY R [aU ak,.im<|.tup<|R8.map b7,.im<|ar<|bP e n]=Z (.im<|ar<|et<|aL R8 (e,n),[aU ak,.im<|.tup<|R8.map b7,.im<|ar<|bP e n]):=by
 have g:=SM.par e k m j;have o:=(OH g.1 g.2 f).1;rw[M8 R8 e f];have d:∀{h Sx a b:Int},ph R ((bP e n).1-e.1) ((bP e n).2-e.2) h Sx a b->(e.1+h*2,e.2+Sx*2)=eh e n->((bP e n).1+h*1,(bP e n).2+Sx*1)=Y (bP e n) n->((bP e n).1+a*1,(bP e n).2+b*1)=bP e ((n+1)%4)->
   hY R [aU ak,.im<|.tup<|R8.map b7,.im<|ar<|bP e n]=Z (.im<|ar<|if eC R8 e (eh e n)=aa then Y (bP e n) n else bP e ((n+1)%4),[aU ak,.im<|.tup<|R8.map b7,.im<|ar<|bP e n]):=λH p q r=>by
  rw[G5 H i o rfl rfl l,p,q,r]
 match n,f with
 |0,_=>
  refine d (h := -1) (Sx:=0) (a:=0) (b:=1) ?_ (dK ?_ ?_) (dK ?_ ?_) (dK ?_ ?_)
  ·rw[show (bP e 0).1-e.1=0 by simp[bP],show (bP e 0).2-e.2=0 by simp[bP]];exact c.hN
  all_goals (simp[bP,eh,Y];try lia)
 |1,_=>
  refine d (h:=0) (Sx:=1) (a:=1) (b:=0) ?_ (dK ?_ ?_) (dK ?_ ?_) (dK ?_ ?_)
  ·rw[show (bP e 1).1-e.1=0 by simp[bP],show (bP e 1).2-e.2=1 by simp[bP];lia];exact c.cw
  all_goals (simp[bP,eh,Y])
 |2,_=>
  refine d (h:=1) (Sx:=0) (a:=0) (b := -1) ?_ (dK ?_ ?_) (dK ?_ ?_) (dK ?_ ?_)
  ·rw[show (bP e 2).1-e.1=1 by simp[bP];lia,show (bP e 2).2-e.2=1 by simp[bP];lia];exact c.cp
  all_goals (simp[bP,eh,Y];try lia)
 |3,_=>
  refine d (h:=0) (Sx := -1) (a := -1) (b:=0) ?_ (dK ?_ ?_) (dK ?_ ?_) (dK ?_ ?_)
  ·rw[show (bP e 3).1-e.1=1 by simp[bP];lia,show (bP e 3).2-e.2=0 by simp[bP]];exact c.c_
  all_goals (simp[bP,eh,Y];try lia)
def Kt(SM:iq RX)(Sr:ak.Perm (cells RX))(O:eU ak):∃m,ak[0]?=Z m/\m∈RX:=by
 cases ak with
 |nil=>
  have t:=Sr.length_eq;rw[qc]at t;have:=oE.mpr SM.ne;simp at t;lia
 |cons m u=>
  refine⟨m,rfl,?_⟩;let⟨@e,a,⟨@n,b,c⟩⟩:=zB.mp (Sr.mem_iff.mp<|.head _);have d:e∈m::u:=Sr.mem_iff.mpr (zB.mpr ⟨e,a,0,by decide,rfl⟩);by_cases C:e=m
  ·rw[<-C];exact a
  ·have f:e∈u:=(cc.mp d).resolve_left C;unfold eU at O;rw[bY,h7]at O;have lt:=pG.mp (O.1 _<|p3 f);have F:=Ex.mp (y8 e b);rw[<-c]at F;lia
end G
namespace G
section
variable{Sj:Type}[DecidableEq Sj]
theorem qZ:∀{J i:List Sj},J.Nodup->(∀f∈J,f∈i)->J.length<=i.length
 |[],i,_,_=>gP _
 |f::J,i,aj,h=>by
  have b:=h f (.head _);let@⟨d,S8⟩:=f9.mp aj;have o:=C6 b;have:=qZ S8 (i:=i.erase f) λD a=>(vY (λc=>d (by rw[<-c];exact a))).mpr (h D<|.tail _ a);have q:=o.length_eq;rw[dA]at q ⊢;lia
def cf(F:Sj->Sj)(h:Sj):Nat->Sj
 |0=>h
 |v+1=>F (cf F h v)
theorem vh(F:Sj->Sj)(h:Sj)(i:Nat):∀v,cf F h (i+v)=cf F (cf F h i) v
 |0=>rfl
 |v+1=>congrArg F (vh F h i v)
structure iP(F:Sj->Sj)(b:List Sj):Prop where
 Fh:∀f∈b,F f∈b
 inj:∀f∈b,∀D∈b,F f=F D->f=D
variable{F L:Sj->Sj}{b:List Sj}
theorem iP.cf(R4:iP F b){f:Sj}(d:f∈b):∀v,cf F f v∈b
 |0=>d
 |v+1=>R4.Fh _ (R4.cf d v)
theorem iP.back(R4:iP F b){f:Sj}(d:f∈b):∀{a x:Nat},G.cf F f (a+x)=G.cf F f a->G.cf F f x=f
 |0,x,c=>by rw[vc]at c;exact c
 |a+1,x,c=>by
  rw[show a+1+x=(a+x)+1 by lia]at c;exact R4.back d (R4.inj _ (R4.cf d _) _ (R4.cf d _) c)
def Fe(R4:iP F b){f:Sj}(d:f∈b)(Si:Nat):(∃x,0<x/\x<Si/\G.cf F f x=f)\/((range Si).map<|G.cf F f).Nodup:=by
 by_cases C:∃x,0<x/\x<Si/\G.cf F f x=f
 ·exact .inl C
 ·right;refine ve ro λa RT r e c=>?_;have RT:=en.mp RT;have e:=en.mp e;rcases qf a r with J|J|J
  ·exfalso;refine C ⟨r-a,⋯,⋯,R4.back d (a:=a) ?_⟩;rw[show a+(r-a)=r by lia];exact c.symm
  ·exact J
  ·exfalso;refine C ⟨a-r,⋯,⋯,R4.back d (a:=r) ?_⟩;rw[show r+(a-r)=a by lia];exact c
def C3(R4:iP F b){f:Sj}(d:f∈b):∃v,G.cf F f (v+1)=f:=by
 rcases Fe R4 d (b.length+1) with ⟨x,t,A,c⟩|aj
 ·exact⟨x-1,by rw[show x-1+1=x by lia];exact c⟩
 ·have:=qZ aj (i:=b) λD e=>by
   let⟨@a,W,rfl⟩:=dS.mp e;exact R4.cf d a
  rw[bt,fQ]at this;lia
inductive dt (F:Sj->Sj) (b:List Sj):Sj->Sj->Prop where
 | step {f:Sj}:f∈b->dt F b f (F f)
 | refl {f:Sj}:dt F b f f
 | symm {f D:Sj}:dt F b f D->dt F b D f
 | trans {f D C:Sj}:dt F b f D->dt F b D C->dt F b f C
def dt.Jf(R4:iP F b){m:Sj}(h:m∈b){g e:Sj}(d:dt F b g e):(∃v,G.cf F m v=g)↔∃v,G.cf F m v=e:=by
 induction d with
 |@step f j=>
  constructor
  ·rintro⟨v,c⟩;exact⟨v+1,congrArg F c⟩
  ·rintro⟨v,c⟩;cases v with
   |succ n=>exact⟨n,R4.inj _ (R4.cf h n) _ j c⟩
   |zero=>
    let⟨@i,k⟩:=C3 R4 h;exact⟨i,R4.inj _ (R4.cf h i) _ j<|k.trans c⟩
 |refl=>exact Iff.rfl
 |symm _ l=>exact l.symm
 |trans _ _ a r=>exact a.trans r
def J6(R4:iP F b){f D:Sj}(i:f∈b)(o:D∈b)(q:L f=F D)(s:L D=F f)(Ts:∀p∈b,p≠f->p≠D->L p=F p)(t:∀v,G.cf F f v≠D):
  (∀g e,dt F b g e->dt L b g e)/\dt L b f D:=by
 have u:∀v,dt L b (F f) (G.cf F f<|v+1)\/dt L b (F f) f:=λv=>by
  induction v with
  |zero=>exact .inl .refl
  |succ v j=>
   rcases j with d|d
   ·by_cases C:G.cf F f (v+1)=f
    ·rw[C]at d;exact .inr d
    ·left;have h:dt L b (G.cf F f<|v+1) (L<|G.cf F f<|v+1):=.step (R4.cf i _);rw[Ts _ (R4.cf i _) C (t _)]at h;exact d.trans h
   ·exact .inr d
 have SO:dt L b (F f) f:=by
  let⟨@v,c⟩:=C3 R4 i;rcases u v with d|d
  ·rw[c]at d;exact d
  ·exact d
 have k:dt L b D f:=by
  have h:dt L b D (L D):=.step o;rw[s]at h;exact h.trans SO
 have w:dt L b f (F D):=by
  have h:dt L b f (L f):=.step i;rw[q]at h;exact h
 refine⟨λg e d=>?_,k.symm⟩;induction d with
 |@step p l=>
  by_cases m:p=f
  ·rw[m];exact SO.symm
  ·by_cases n:p=D
   ·rw[n];exact k.trans w
   ·have h:dt L b p (L p):=.step l;rw[Ts p l m n]at h;exact h
 |refl=>exact .refl
 |symm _ j=>exact j.symm
 |trans _ _ a r=>exact a.trans r
def Q1(R4:iP F b)(aj:b.Nodup){m:Sj}(d:m∈b)(all:∀f∈b,dt F b m f):((range b.length).map<|G.cf F m).Perm b/\G.cf F m b.length=m:=by
 have reach:∀f∈b,∃v,G.cf F m v=f:=λf g=>((all f g).Jf R4 d).mp ⟨0,rfl⟩;have h:¬ ∃x,0<x/\x<b.length/\G.cf F m x=m:=by
  rintro⟨x,t,A,c⟩;have mul:∀q,G.cf F m (x*q)=m:=λq=>by
   induction q with
   |zero=>rfl
   |succ q j=>rw[Cw,yp,vh,c,j]
  have:=qZ aj (i:=(range x).map (G.cf F m)) λf g=>by
   let⟨@v,rfl⟩:=reach f g;refine dS.mpr ⟨v%x,en.mpr<|jV _ t,?_⟩
   conv=>rhs;rw[<-Nat.div_add_mod v x,vh,mul]
  rw[bt,fQ]at this;lia
 have S8:((range b.length).map<|G.cf F m).Nodup:=(Fe R4 d b.length).resolve_left h;have Sr:=Bg S8 (i:=b) (λD k=>by
  let⟨@a,W,rfl⟩:=dS.mp k;exact R4.cf d a) (by rw[bt,fQ];exact bl _)
 refine⟨Sr,?_⟩;let⟨@a,RT,c⟩:=dS.mp (Sr.mem_iff.mpr<|R4.cf d b.length);have RT:=en.mp RT;have e:=R4.back d (a:=a) (x:=b.length-a) (by rw[show a+(b.length-a)=b.length by lia];exact c.symm);by_cases C:a=0
 ·subst C;rw[ze]at e;exact e
 ·exact absurd ⟨b.length-a,⋯,⋯,e⟩ h
end
variable{o:aC->aC}{SH R8:List bT}{RX:List aC}
def d6(RX:List aC):List (aC×Nat):=(RX.flatMap λe=>[(e,0),(e,1),(e,2),(e,3)])
def gs{h:aC×Nat}:h∈d6 RX↔h.1∈RX/\h.2<4:=by
 unfold d6;rw[sX];constructor
 ·rintro⟨e,a,d⟩;simp only[cc,fI,hz]at d;rcases d with d|d|d|d<;>subst d<;>exact⟨a,by simp⟩
 ·rintro⟨t,A⟩;refine⟨h.1,t,?_⟩;let⟨e,n⟩:=h;simp only[cc,fI,hz,xR,true_and];simp only at A;lia
theorem AD:∀RX:List aC,(d6 RX).length=4*RX.length
 |[]=>rfl
 |e::RX=>by
  have:=AD RX;unfold d6 at *;rw[k_,d4,this];simp;lia
def HG(aj:RX.Nodup):(d6 RX).Nodup:=tU aj (λe W=>by simp) λg W e W f t A=>by
 simp only[cc,fI,hz]at t A;have a:f.1=g:=by rcases t with d|d|d|d<;>rw[d]
 have b:f.1=e:=by rcases A with d|d|d|d<;>rw[d]
 exact a.symm.trans b
theorem td(b:∀c∈R8,hb RX c):iP (aL R8) (d6 RX) where
 Fh:=λh R6=>by
  have d:=gs.mp R6;exact gs.mpr ⟨NC b d.1 h.2,Hu R8 h⟩
 inj:=λf e D g c=>by
  have t:=(gs.mp e).2;have A:=(gs.mp g).2;have a:=FR R8 f.1 t;have SU:=FR R8 D.1 A;rw[show ((f.1,f.2):aC×Nat)=f from rfl]at a;rw[show ((D.1,D.2):aC×Nat)=D from rfl]at SU;rw[<-a,c,SU]
def Ar{e:aC}{n r:Nat}(a:n<4)(b:r<4)(d:eh e n=eh e r):n=r:=by
 let⟨f,D⟩:=e
 match n,a,r,b with
 |0,_,0,_=>rfl
 |1,_,1,_=>rfl
 |2,_,2,_=>rfl
 |3,_,3,_=>rfl
 |0,_,1,_|0,_,2,_|0,_,3,_|1,_,0,_|1,_,2,_|1,_,3,_|2,_,0,_|2,_,1,_|2,_,3,_|3,_,0,_|3,_,1,_|3,_,2,_=>
  simp only[eh,xR]at d;lia
def xm(R8:List bT)(c:bT)(g e:aC):eC (R8++[c]) g e=(eC R8 g e || decide ((g,e)=c\/(e,g)=c)):=by
 unfold eC;rw[iX,rQ,fi,fi,fi,dJ,dJ,cm,cm];constructor
 ·rintro ((d|d)|(d|d))
  ·exact .inl (.inl d)
  ·exact .inr (.inl d)
  ·exact .inl (.inr d)
  ·exact .inr (.inr d)
 ·rintro ((d|d)|(d|d))
  ·exact .inl (.inl d)
  ·exact .inr (.inl d)
  ·exact .inl (.inr d)
  ·exact .inr (.inr d)
structure PI(RX:List aC)(SH:List bT)(o:aC->aC):Prop where
 gw:∀h∈d6 RX,o (aL SH h).1=o h.1
 link:∀g∈d6 RX,∀e∈d6 RX,o g.1=o e.1->dt (aL SH) (d6 RX) g e
 lE:∀c∈SH,o c.1=o c.2
def NJ(n:jR RX SH o):PI RX SH o:=by
 induction n with
 |nil=>
  have Tu:∀e n,aL [] (e,n)=(e,(n+1)%4):=λe n=>by
   unfold aL eC;simp
  refine⟨λh W=>by rw[show h=(h.1,h.2) from rfl,Tu],λg l e u c=>?_,(λ_ d=>by cases d)⟩;have c:g.1=e.1:=c;let⟨f,a⟩:=g;let⟨D,r⟩:=e;have c:f=D:=c;subst c;have m:=(gs.mp l).1;have Y:∀n,n<4->dt (aL []) (d6 RX) (f,n) (f,(n+1)%4):=λn s=>by
   have:=dt.step (F:=aL []) (b:=d6 RX) (f:=(f,n)) (gs.mpr ⟨m,s⟩);rw[Tu]at this;exact this
  have C:∀n,n<4->dt (aL []) (d6 RX) (f,0) (f,n):=λn s=>by
   match n,s with
   |0,_=>exact .refl
   |1,_=>exact Y 0 ∅
   |2,_=>exact (Y 0 ∅).trans (Y 1 ∅)
   |3,_=>exact ((Y 0 ∅).trans (Y 1 ∅)).trans (Y 2 ∅)
  exact (C a (gs.mp l).2).symm.trans (C r (gs.mp u).2)
 |@add SH o c n z w k=>
  let⟨bA,b0⟩:=c;let@⟨t,A,al⟩:=z;have t:bA∈RX:=t;have A:b0∈RX:=A;have w:o bA≠o b0:=w;obtain⟨i,j,M,N,B,SE,am,an⟩:∃i j,i<4/\j<4/\eh bA i=b0/\eh b0 j=bA/\(i+3)%4=(j+1)%4/\(j+3)%4=(i+1)%4:=by
   rcases al with d|d
   ·have d:b0=(bA.1,bA.2+2):=d;refine⟨1,3,by decide,by decide,d.symm,?_,by decide,by decide⟩;rw[d];exact dK rfl (by show bA.2+2-2=bA.2;lia)
   ·have d:b0=(bA.1+2,bA.2):=d;refine⟨2,0,by decide,by decide,d.symm,?_,by decide,by decide⟩;rw[d];exact dK (by show bA.1+2-2=bA.1;lia) rfl
  have R4:iP (aL SH) (d6 RX):=td n.vP;have m:(bA,i)∈d6 RX:=gs.mpr ⟨t,M⟩;have E:(b0,j)∈d6 RX:=gs.mpr ⟨A,N⟩;have O:eC SH bA b0=ay:=by
   unfold eC;refine eX ?_;rintro (d|d)
   ·exact w (k.lE _ d)
   ·exact w (k.lE _ d).symm
  have ap:eC SH b0 bA=ay:=by rw[AA];exact O
  have SO:aL SH (bA,i)=(bA,(i+1)%4):=by unfold aL;dsimp only;rw[B,O];rfl
  have P:aL SH (b0,j)=(b0,(j+1)%4):=by unfold aL;dsimp only;rw[SE,ap];rfl
  have Q:aL (SH++[(bA,b0)]) (bA,i)=aL SH (b0,j):=by
   rw[P];unfold aL;dsimp only;rw[B,xm,er<|.inl rfl,zK,aD rfl,am]
  have R:aL (SH++[(bA,b0)]) (b0,j)=aL SH (bA,i):=by
   rw[SO];unfold aL;dsimp only;rw[SE,xm,er<|.inr rfl,zK,aD rfl,an]
  have Ts:∀p∈d6 RX,p≠(bA,i)->p≠(b0,j)->aL (SH++[(bA,b0)]) p=aL SH p:=λp as a1 S8=>by
   let⟨e,n⟩:=p;have s:n<4:=(gs.mp as).2;unfold aL;dsimp only;rw[xm,eX,CY];rintro (d|d)
   ·injection d with G I;subst G;exact a1 (by rw[Ar s M (I.trans B.symm)])
   ·injection d with G I;subst I;exact S8 (by rw[Ar s N (G.trans SE.symm)])
  have gw:∀v,o (cf (aL SH) (bA,i) v).1=o bA:=λv=>by
   induction v with
   |zero=>rfl
   |succ v a=>exact (k.gw _<|R4.cf m v).trans a
  let@⟨x,S⟩:=J6 R4 m E Q R Ts λv c=>w (by rw[<-gw v,c]);have J:(if o bA=o bA then o b0 else o bA)=o b0:=aD rfl;have SU:(if o b0=o bA then o b0 else o b0)=o b0:=by split<;>rfl
  refine⟨λh R6=>?_,λg l e u q=>?_,λc z=>?_⟩
  ·show (if o (aL (SH++[(bA,b0)]) h).1=o bA then o b0 else o (aL (SH++[(bA,b0)]) h).1)=(if o h.1=o bA then o b0 else o h.1);by_cases T:h=(bA,i)
   ·rw[T,Q,P];exact SU.trans J.symm
   ·by_cases U:h=(b0,j)
    ·rw[U,R,SO];exact J.trans SU.symm
    ·rw[Ts h R6 T U,k.gw h R6]
  ·have q:(if o g.1=o bA then o b0 else o g.1)=(if o e.1=o bA then o b0 else o e.1):=q;by_cases C:o g.1=o e.1
   ·exact x _ _ (k.link g l e u C)
   ·by_cases y:o g.1=o bA
    ·rw[aD y,aG λH=>C<|y.trans H.symm]at q;exact ((x _ _<|k.link g l _ m y).trans S).trans (x _ _<|k.link _ E e u q)
    ·rw[aG y]at q;by_cases L:o e.1=o bA
     ·rw[aD L]at q;exact ((x _ _<|k.link g l _ E q).trans S.symm).trans (x _ _<|k.link _ m e u L.symm)
     ·rw[aG L]at q;exact absurd q C
  ·show (if o c.1=o bA then o b0 else o c.1)=(if o c.2=o bA then o b0 else o c.2);rcases dJ.mp z with d|d
   ·rw[k.lE c d]
   ·rw[cm.mp d];exact J.trans SU.symm
def OK(d:R8.Perm SH)(g e:aC):eC R8 g e=eC SH g e:=by
 unfold eC;rw[iX,fi,fi,d.mem_iff,d.mem_iff]
def Ls(d:R8.Perm SH):aL R8=aL SH:=by
 funext h;unfold aL;rw[OK d]
def Hk{m:aC}(SM:iq RX)(Sr:R8.Perm SH)(hR:jR RX SH o)(f:∀c,hb RX c->o c.1=o c.2)(a:m∈RX):
  ((range<|4*RX.length).map<|cf (aL R8) (m,0)).Perm (d6 RX)/\cf (aL R8) (m,0) (4*RX.length)=(m,0):=by
 have l:=NJ hR;have R4:iP (aL R8) (d6 RX):=td λc i=>hR.vP c (Sr.mem_iff.mp i);rw[Ls Sr]at R4 ⊢;have p:=SM.con o λg j e k d=>f (g,e) ⟨j,k,d⟩;have b:(m,0)∈d6 RX:=gs.mpr ⟨a,by simp⟩;have:=Q1 R4 (HG SM.aj) b λh R6=>l.link _ b h R6 (p m a h.1 (gs.mp R6).1);rw[AD]at this;exact this
def KX:(d6 RX).map et=cells RX:=by
 unfold d6 cells;induction RX with
 |nil=>rfl
 |cons e RX a=>rw[k_,k_,gq,a];rfl
end G
namespace G
open L2
def Gh(R:dq):aA Bool:=((bS<|az z8 (af<|bX dw<|av (aq 2) aH)<|af<|bX dw<|av (aq 0) aH))
def Dg(R:dq):bF:=((iM<|gI iD 2 hI<|av (af<|bV 3 (G.hY R)<|av (aq 0)<|av (aq 1)<|av (af<|az bo (aq 2)<|af<|uN<|aF<|.int 1) aH) aH))
def Aj(R:dq):bF:=((b1 (cy 2<|fO<|av (af<|az bo (aq 0)<|af<|aF<|.int 0) aH)<|b1 (kM (G.Gh R) (G.Dg R) 1000000)<|dk<|bX hU<|av (aq 2) aH))
def nz(R:dq):cX:=(dy 2 3 [0,1] (Aj R))
def dF(R8:List bT)(m:aC)(v:Nat):List aC:=((range v).map λa=>et (cf (aL R8) (m,0) a))
def BP(R8:List bT)(m:aC)(v:Nat):(dF R8 m v).length=v:=by unfold dF;rw[bt,fQ]
def xZ(R8:List bT)(m:aC)(v:Nat):dF R8 m (v+1)=dF R8 m v++[et (cf (aL R8) (m,0) v)]:=by
 unfold dF;rw[A5,gq];rfl
def J_(R8:List bT)(m:aC)(v:Nat):dQ ((dF R8 m<|v+1).map ar) (-1)=Z (ar<|et<|cf (aL R8) (m,0) v):=by
 refine MN ?_;rw[xZ];simp
def Jg{R:dq}(r:oO R){RX ak:List aC}{R8:List bT}{m:aC}(SM:iq RX)(g:ak[0]?=Z m)(h:m∈RX)(s:nD R8)(t:∀c∈R8,hb RX c)(u:ak.length=4*RX.length):
  nz R [aU ak,.im<|.tup<|R8.map b7]=Z (aU<|dF R8 m<|4*RX.length,[aU ak,.im<|.tup<|R8.map b7]):=by
 have aN:=SM.len;have C:=oE.mpr SM.ne;have R4:=td t;have w:(m,0)∈d6 RX:=gs.mpr ⟨h,by simp⟩;obtain⟨b,j⟩:∃b:X,b=.tup (R8.map b7):=⟨_,rfl⟩;have x:bo (aU ak) (aQ 0)=Z (.im<|ar m):=by
  show (dQ (ak.map ar) 0).map ai.im=_;rw[ru ∅ ⇑g];rfl
 have y:cy 2 (fO<|av (af<|az bo (aq 0)<|af<|aF<|.int 0) aH) [Z (aU ak),Z<|.im b,V]=Z (.aL,[Z (aU ak),Z<|.im b,Z<|bb<|dF R8 m 1]):=by
  exact xr (Kg (eL (bE<|es x) rfl) rfl (pL rfl) rfl) (show 2<3 by decide) rfl
 let⟨@Sl,z,rfl⟩:=Pe (p:=Gh R) (e:=Dg R) (λi k=>∃v,k=[Z (aU ak),Z<|.im b,Z<|bb<|dF R8 m<|v+1]/\v+1+i=4*RX.length) (λk=>k=[Z (aU ak),Z<|.im b,Z<|bb<|dF R8 m<|4*RX.length])
  (λi k A=>by
   let⟨@v,rfl,n⟩:=A;refine⟨decide (v+1<4*RX.length),[Z (aU ak),Z<|.im b,Z<|bb<|dF R8 m<|v+1],?_,λa=>?_,λa=>?_⟩
   ·have o:=BP R8 m (v+1);have q:=CZ (dF R8 m<|v+1);have d:=l0 ak;rw[o]at q;rw[u]at d;refine (gH<|df (bE<|mq rfl rfl q) (bE<|mq rfl rfl d) rfl rfl rfl).trans ?_;rw[show decide (((v+1:Nat):Int)<((4*RX.length:Nat):Int))=decide (v+1<4*RX.length) by rw[iX,fi,fi];lia]
   ·have a:=fK a;have R6:=gs.mp (R4.cf w v);have l:bo (bb<|dF R8 m<|v+1) (aQ<|-1)=Z (.im<|ar<|bP (cf (aL R8) (m,0) v).1 (cf (aL R8) (m,0) v).2):=by
     show (dQ ((dF R8 m<|v+1).map ar)<|-1).map ai.im=_;rw[J_];rfl
    have f:=Bv r (R8:=R8) SM g h R6.1 R6.2 s;rw[<-j]at f;have o:=BP R8 m (v+1);have B:(dF R8 m<|v+1).length<100000:=⋯
    refine⟨.aL,[Z (aU ak),Z<|.im b,Z<|bb<|dF R8 m<|v+1+1],?_,.inl rfl,i-1,⋯,v+1,rfl,⋯⟩;have d:(dF R8 m<|v+1).map ar++[ar (et<|aL R8<|cf (aL R8) (m,0) v)]=(dF R8 m<|v+1+1).map ar:=by
     rw[xZ R8 m (v+1),gq];rfl
    rw[show (((cf (aL R8) (m,0) v).1,(cf (aL R8) (m,0) v).2):aC×Nat)=cf (aL R8) (m,0) v from rfl]at f;have n:hI (bb<|dF R8 m<|v+1) [.im (ar<|et<|aL R8<|cf (aL R8) (m,0) v)]=Z (.im .aX,bb<|dF R8 m<|v+1+1):=by
     rw[xZ R8 m (v+1)];exact v7 B
    exact nZ (mQ rfl rfl (dR (dM<|eN (dR rfl<|dR rfl<|dR (dM<|h4 rfl (dM<|Kx rfl) rfl rfl l) rfl) rfl rfl f) rfl) rfl rfl n (by rfl))
   ·have a:=of_decide_eq_false a;rw[show v+1=4*RX.length by lia]) 1000000 (4*RX.length-1) _ ⟨0,rfl,⋯⟩ ⋯
 rw[<-j];unfold nz Aj;exact j0 [Z (aU ak),Z<|.im b,Z<|bb<|dF R8 m<|4*RX.length] rfl ((dB y).trans<|(dB z).trans<|fB rfl) rfl
def iE(a:Int):Int:=(if a<0 then -a else a)
end G
namespace L2
open Spec PyProof.Rows
variable{L S8 Ta Ss v a i:Nat}{R4:List X->ag->Prop}{H:a7}{a5:Array ab}{SE m:a3}{S1 Se l g:ag}{Te f:ab}{RU d:aV}{R:List (List X)}{B:Option ab->ah->Prop}{h:ah}{U:Array (Int×ab)}{RY:List Nat}{Su:Array (Option Nat)}{SX Sj:Type}{R6:List Int}{n:List X}{b:Bool}{y:aP}{z:Array Nat}
abbrev eU(z:Array Nat):Prop:=z.toList.Pairwise (· < ·)
def qP(u:eU z){a n:Nat}{x:Nat}(d:a<n)(e:n<z.size):z.getD a x<z.getD n x:=by
 have RT:a<z.size:=pC d e;have c:∀i (b:i<z.size),z.getD i x=z.toList[i]'⇑b:=λi b=>by simp[Array.getD,b]
 rw[c a RT,c n e];exact nj.mp u a n _ _ d
theorem x_(z:Array Nat)(u:eU z)(r:Nat):∀(fuel P RT:Nat),RT-P<=fuel->P<=RT->RT<=z.size->(∀a,a<P->z.getD a r<r)->(∀a,RT<=a->a<z.size->r<=z.getD a r)->
  (aP.below.go z r fuel P RT<=z.size/\(∀a,a<aP.below.go z r fuel P RT->z.getD a r<r)/\∀a,aP.below.go z r fuel P RT<=a->a<z.size->r<=z.getD a r)
 |0,P,RT,t,A,f,g,e=>by
  have c:P=RT:=⋯
  subst c;exact⟨f,g,e⟩
 |fuel+1,P,RT,t,A,f,g,e=>by
  unfold aP.below.go;by_cases d:P<RT
  ·rw[aD d];dsimp only;by_cases b:z.getD ((P+RT)/2) r<r
   ·rw[aD b];refine x_ z u r fuel _ _ ⋯ ⋯ f (λa h=>?_) e;rcases gF a ((P+RT)/2) with RU|RU
    ·exact pC (qP u RU ⋯) b
    ·have:a=(P+RT)/2:=⋯
     rw[this];exact b
   ·rw[aG b];refine x_ z u r fuel _ _ ⋯ ⋯ ⋯ g (λa h i=>?_);rcases gF ((P+RT)/2) a with RU|RU
    ·exact lD (ug (oI.mp b)<|qP u RU i)
    ·have:a=(P+RT)/2:=⋯
     rw[this];exact oI.mp b
  ·rw[aG d];have c:P=RT:=⋯
   subst c;exact⟨f,g,e⟩
def th(u:eU z)(r:Nat):aP.below z r<=z.size/\(∀a,a<aP.below z r->z.getD a r<r)/\∀a,aP.below z r<=a->a<z.size->r<=z.getD a r:=
 x_ z u r z.size 0 z.size ⋯ ⋯ ⋯ (λa d=>absurd d<|qA _) λa d RU=>absurd RU ⋯
def xJ(u:eU z){a r:Nat}(d:z[a]?=Z r):aP.below z r=a:=by
 let@⟨g,e,p⟩:=th u r;let⟨@RT,c⟩:=nU.mp d;have b:z.getD a r=r:=by simp[Array.getD,RT,c]
 rcases qf (aP.below z r) a with t|t|t
 ·have A:=p _ (bl _) (pC t RT);have f:=qP u (x:=r) t RT;omega
 ·exact t
 ·have:=e a t;omega
def Lj(u:eU z){a r:Nat}(d:z[a]?=Z r):aP.below z (r+1)=a+1:=by
 let@⟨g,e,p⟩:=th u (r+1);let⟨@RT,c⟩:=nU.mp d;have b:z.getD a (r+1)=r:=by simp[Array.getD,RT,c]
 rcases qf (aP.below z<|r+1) (a+1) with t|t|t
 ·have:=p a ⋯ RT;lia
 ·exact t
 ·have A:=e (a+1) t;have f:=qP u (x:=r+1) (k6 a) ⋯;lia
def Od(u:eU z):aP.below z 0=0:=by
 let@⟨g,e,p⟩:=th u 0;rcases Cs (aP.below z 0) with d|d
 ·exact d
 ·exact absurd (e 0 d) (qA _)
def Ot(u:eU z){r:Nat}(d:¬ (z[aP.below z r]?=Z r)):eU (aP.insertAt z (aP.below z r) r):=by
 let@⟨g,e,p⟩:=th u r;unfold eU;rw[EE];refine DT.mpr ⟨AO (p8 _ _) u,h7.mpr ⟨λD a=>?_,AO (uG _ _) u⟩,λf k D a=>?_⟩
 ·let⟨n,b,rfl⟩:=mx.mp a;rw[o9];have R6:aP.below z r+n<z.size:=by simp at b;lia
  have t:=p (aP.below z r+n) (uU _ _) R6;have c:z.getD (aP.below z r+n) r=z.toList[aP.below z r+n]:=by simp[Array.getD,R6]
  rw[c]at t;refine Nat.lt_of_le_of_ne t λh=>?_;rcases Cs n with h0|h0
  ·subst h0;apply d;rw[nU];exact⟨⋯,by simpa using h.symm⟩
  ·have A:=qP u (x:=r) (AJ (n:=aP.below z r) h0) R6;have l:=p (aP.below z r) (bl _) ⋯;rw[c]at A;exact absurd h (cR<|ug l A)
 ·let⟨n,b,rfl⟩:=mx.mp k;rw[sD];have m:n<aP.below z r:=by simp at b;lia
  have R6:n<z.size:=⋯
  have t:=e n m;have c:z.getD n r=z.toList[n]:=by simp[Array.getD,R6]
  rw[c]at t;rcases cc.mp a with rfl|a
  ·exact t
  ·let⟨i,o,rfl⟩:=mx.mp a;rw[o9];have j:aP.below z r+i<z.size:=by simp at o;lia
   have A:=p (aP.below z r+i) (uU _ _) j;have q:z.getD (aP.below z r+i) r=z.toList[aP.below z r+i]:=by simp[Array.getD,j]
   rw[q]at A;exact ef t A
structure kb(y:aP)(led:Bool):Prop where
 rise:eU y.place
 n9:y.dummies=#[]
 led:y.led=led
def kb.LH(d:kb y b)(e:Bool):kb {y with plain:=e} b:=⟨d.rise,d.n9,d.led⟩
def Dp(r:Nat):aP.has #[] r=ay:=rfl
def Oe(b:y.dummies=#[])(r:Nat):(∃a,y.slot r=.live a)\/(y.slot r=.empty/\¬ (y.place[aP.below y.place r]?=Z r)):=by
 unfold aP.slot;dsimp only;by_cases d:(y.place[aP.below y.place r]? == Z r)=aa
 ·rw[aD d];exact .inl ⟨_,rfl⟩
 ·rw[aG d,b,Dp];exact .inr ⟨rfl,λc=>d (by rw[c];exact gX _)⟩
def kb.put(d:kb y b){r:Nat}(a:¬ (y.place[aP.below y.place r]?=Z r)):kb (y.put r).1 b:=by
 refine⟨Ot d.rise a,?_,d.led⟩;show (if aP.has y.dummies r=aa then _ else y.dummies)=#[];rw[d.n9,Dp];rfl
def HZ{i l n:Nat}{o:Bool}{R6:Array Int}{m:Array Nat}(c:aP.laid i l n b o R6=Z (y,m)):kb y b:=by
 unfold aP.laid at c;cases d:aP.layClean i R6 with
 |none=>rw[d]at c;cases c
 |some Su=>
  rw[d]at c;cases c;refine⟨?_,rfl,rfl⟩;show (List.map (λf:Nat×Nat=>f.1)<|List.filterMap (λr=>Option.map (λf=>(r,f))<|Su.getD r V)<|range<|i+1).Pairwise (· < ·);rw[CM];refine Oj _ (R:=(· < ·)) (λg e p f a D h=>?_) List.pairwise_lt_range;cases j:Su.getD g V with
  |none=>rw[j]at a;cases a
  |some I=>
   cases k:Su.getD e V with
   |none=>rw[k]at h;cases h
   |some s=>
    rw[j]at a;rw[k]at h;cases a;cases h;exact p
def oR(i:Nat)(o:aP.Probe):aP.Probe:=(
 if o.more>0 then {o with j:=o.j+1,more:=o.more-1} else
 {o with j:=(aP.leap i o.i o.perturb).1,more:=aP.runEnd i (aP.leap i o.i o.perturb).1-(aP.leap i o.i o.perturb).1,i:=(aP.leap i o.i o.perturb).1,perturb:=(aP.leap i o.i o.perturb).2})
def pq(i a pt:Nat):aP.Probe:=({j:=a,more:=aP.runEnd i a-a,i:=a,perturb:=pt,dummy:=V})
def b8(i:Nat)(d:Int):Nat->aP.Probe
 |0=>pq i (aP.bits d%(i+1)) (aP.bits d)
 |n+1=>oR i (b8 i d n)
def cV(i:Nat)(d:Int):Nat->Nat×Nat
 |0=>(aP.bits d%(i+1),aP.bits d)
 |q+1=>aP.leap i (cV i d q).1 (cV i d q).2
theorem wh(i:Nat)(d:Int):∀n,(b8 i d n).dummy=V
 |0=>rfl
 |n+1=>by
  rw[b8,oR];split
  ·exact wh i d n
  ·exact wh i d n
def Jr(i a:Nat):aP.runEnd i a-a<=9:=by
 unfold aP.runEnd;split<;>lia
theorem oS{i:Nat}{d:Int}{n a pt:Nat}(c:b8 i d n=pq i a pt):∀u,u<=aP.runEnd i a-a->b8 i d (n+u)={pq i a pt with j:=a+u,more:=aP.runEnd i a-a-u}
 |0,_=>c
 |u+1,b=>by
  show oR i (b8 i d<|n+u)=_;rw[oS c u ⋯,oR,aD (show aP.runEnd i a-a-u>0 by lia)];rfl
def Q8{d:Int}{n pt:Nat}(c:b8 i d n=pq i a pt):b8 i d (n+(aP.runEnd i a-a)+1)=pq i (aP.leap i a pt).1 (aP.leap i a pt).2:=by
 show oR i (b8 i d<|n+(aP.runEnd i a-a))=_;rw[oS c _ (bl _),oR,aG (show ¬ (aP.runEnd i a-a-(aP.runEnd i a-a)>0) by lia)];rfl
def fx(i:Nat)(d:Int):Nat->Nat
 |0=>0
 |q+1=>fx i d q+(aP.runEnd i (cV i d q).1-(cV i d q).1)+1
theorem og(i:Nat)(d:Int):∀q,b8 i d (fx i d q)=pq i (cV i d q).1 (cV i d q).2
 |0=>rfl
 |q+1=>Q8 (og i d q)
theorem Fg(i:Nat)(d:Int):∀q,fx i d q<=10*q
 |0=>bl _
 |q+1=>by
  have:=Fg i d q;have:=Jr i (cV i d q).1;show fx i d q+_+1<=_;lia
theorem zb(i:Nat)(d:Int):∀n,∃q u,n=fx i d q+u/\u<=aP.runEnd i (cV i d q).1-(cV i d q).1
 |0=>⟨0,0,rfl,gP _⟩
 |n+1=>by
  let⟨q,@u,c,a⟩:=zb i d n;by_cases C:u+1<=aP.runEnd i (cV i d q).1-(cV i d q).1
  ·exact⟨q,u+1,⋯,C⟩
  ·exact⟨q+1,0,by show _=fx i d q+_+1+0;lia,gP _⟩
def iv(i:Nat):Nat->Nat->Nat
 |0,f=>f
 |n+1,f=>(iv i n f*5+1)%(i+1)
theorem rq(i:Nat)(g f:Nat):∀e,iv i (g+e) f=iv i e (iv i g f)
 |0=>rfl
 |e+1=>by
  show (iv i (g+e) f*5+1)%(i+1)=_;rw[rq i g f e];rfl
def um(i:Nat):Nat->Nat->Nat->Nat
 |0,_,a=>a
 |n+1,f,a=>um i n ((f*5+1)%(i+1)) (a ||| 2^f)
def N5(i n f:Nat):iv i n ((f*5+1)%(i+1))=iv i (n+1) f:=by
 rw[yp n 1,rq];rfl
theorem Dy{i:Nat}:∀{v f D a:Nat},(um i v f a).testBit D=aa->a.testBit D=aa\/∃n,n<v/\iv i n f=D
 |0,_,_,_,d=>.inl d
 |v+1,f,D,a,d=>by
  rcases Dy (v:=v) d with d|⟨n,t,A⟩
  ·rw[Nat.testBit_or,rQ]at d;rcases d with d|d
   ·exact .inl d
   ·rw[Nat.testBit_two_pow,fi]at d;exact .inr ⟨0,rl _,d⟩
  ·exact .inr ⟨n+1,Nat.succ_lt_succ t,by rw[<-N5];exact A⟩
def xO(i:Nat):Bool:=(beq (um i (i+1) 0 0) (2^(i+1)-1)&&beq (iv i (i+1) 0) 0)
def J1(p:xO i=aa){g f:Nat}(c:g<=i)(e:f<=i):∃n,n<=i/\iv i n g=f:=by
 rw[xO,cC]at p;have C:=Gz p.2;have all:∀D,D<=i->∃n,n<i+1/\iv i n 0=D:=λD h=>by
  have q:(um i (i+1) 0 0).testBit D=aa:=by
   rw[Gz p.1,Nat.testBit_two_pow_sub_one];exact er (Cy h)
  rcases Dy q with d|d
  ·rw[Nat.zero_testBit]at d;cases d
  ·exact d
 let⟨@a,t,rfl⟩:=all g c;let⟨@b,A,rfl⟩:=all f e;rcases gF b a with d|d
 ·refine⟨b+(i+1-a),by omega,?_⟩;rw[<-rq,show a+(b+(i+1-a))=(i+1)+b by omega,rq,C]
 ·refine⟨b-a,by omega,?_⟩;rw[<-rq,show a+(b-a)=b by omega]
def hJ(i:Nat):Prop:=(i=7\/i=31\/i=127\/i=511)
def hJ.MS(L:hJ i):xO i=aa:=by
 rcases L with rfl|rfl|rfl|rfl<;>decide +kernel
def GS(d:Int):aP.bits d<2^64:=by
 unfold aP.bits;have t:=l1 d (show (2^64:Int)≠0 by decide);have A:=nP d (show (0:Int)<2^64 by decide);lia
theorem BB(i:Nat)(d:Int):∀q,(cV i d q).2=aP.bits d/32^q
 |0=>by rw[Nat.pow_zero,Nat.div_one];rfl
 |q+1=>by
  show (cV i d q).2/32=_;rw[BB i d q,Nat.div_div_eq_div_mul];rfl
theorem xn(i:Nat)(d:Int):∀q,(cV i d q).1<=i
 |0=>rh (jV _<|rl _)
 |q+1=>rh (jV _<|rl _)
theorem B9(i:Nat)(d:Int):∀n,cV i d (13+n)=(iv i n (cV i d 13).1,0)
 |0=>by
  have c:(cV i d 13).2=0:=by
   rw[BB];exact Nat.div_eq_of_lt (pC (GS d) ∅)
  show cV i d 13=((cV i d 13).1,0);rw[<-c]
 |n+1=>by
  show aP.leap i (cV i d<|13+n).1 (cV i d<|13+n).2=_;rw[B9 i d n];show ((iv i n (cV i d 13).1*5+1+0/32)%(i+1),0/32)=_;rw[Nat.zero_div,B2];rfl
def Cj(L:hJ i)(d:Int){f:Nat}(a:f<=i):∃q,q+1<aP.turns i/\(cV i d q).1=f:=by
 let⟨@n,t,A⟩:=J1 L.MS (xn i d 13) a;exact⟨13+n,by unfold aP.turns;lia,by rw[B9];exact A⟩
def J9(L:hJ i)(d:Int){f:Nat}(a:f<=i):∃n,n<10*aP.turns i/\(b8 i d n).j=f:=by
 let⟨@q,t,A⟩:=Cj L d a;refine⟨fx i d q,by have:=Fg i d q;lia,?_⟩;rw[og];exact A
def BV(d:a<=i):aP.runEnd i a<=i:=by unfold aP.runEnd;split<;>omega
def z3(i:Nat)(d:Int)(n:Nat):(b8 i d n).j<=i:=by
 let⟨q,@u,rfl,a⟩:=zb i d n;rw[oS (og i d q) u a];have:=BV (xn i d q);have c:aP.runEnd i (cV i d q).1 >= (cV i d q).1:=by unfold aP.runEnd;split<;>lia
 show (cV i d q).1+u<=i;lia
theorem wG{Sj:Type}[DecidableEq Sj]:∀{J i:List Sj},J.Nodup->(∀f∈J,f∈i)->J.length<=i.length
 |[],i,_,_=>gP _
 |g::J,i,aj,d=>by
  have a:=f9.mp aj;have q:=wG (J:=J) (i:=i.erase g) a.2 λf b=>(vY (λc:f=g=>a.1<|c ▸ b)).mpr (d f<|.tail _ b);have e:=d g (.head _);rw[List.length_erase_of_mem e]at q;have:=List.length_pos_of_mem e;rw[dA];lia
def kY(i:Nat)(hB:Nat->Prop)(d:Int)(r:Nat):Prop:=(∃n,(b8 i d n).j=r/\∀a,a<n->hB (b8 i d a).j)
def kY.mono{hB b:Nat->Prop}{d:Int}{r:Nat}(u:kY i hB d r)(a:∀f,hB f->b f):kY i b d r:=let ⟨n,c,g⟩:=u;⟨n,c,λe C=>a _<|g e C⟩
structure pN(y:aP)(R6:List Int):Prop where
 lu:hJ y.mask
 len:y.place.size=R6.length
 loose:y.place.size*5<y.mask*3
 le:∀r∈y.place.toList,r<=y.mask
 mK:∀o∈y.place.toList.zip R6,kY y.mask (·∈y.place.toList) o.2 o.1
def hJ.pos(L:hJ i):7<=i/\i<=511/\i%2=1:=by rcases L with rfl|rfl|rfl|rfl<;>decide
def QH(u:eU y.place){r:Nat}(d:r∈y.place.toList):∃a,y.slot r=.live a/\y.place[a]?=Z r:=by
 let⟨a,RT,c⟩:=mx.mp d;have b:y.place[a]?=Z r:=by
  rw[<-eg,dr RT,c]
 refine⟨a,?_,b⟩;unfold aP.slot;dsimp only;rw[xJ u b,b,aD<|gX _]
def Q2(e:y.dummies=#[]){r:Nat}(d:r∉y.place.toList):y.slot r=.empty:=by
 rcases Oe e r with ⟨a,c⟩|⟨c,_⟩
 ·unfold aP.slot at c;dsimp only at c;split at c
  ·next q=>
   have b:=eq_of_beq q;refine absurd ?_ d;rw[<-eg]at b;exact e0 b
  ·split at c<;>cases c
 ·exact c
def pN.some(j:pN y R6)(d:Int):∃n,n<10*aP.turns y.mask/\(b8 y.mask d n).j∉y.place.toList:=by
 have:∃f,f<=y.mask/\f∉y.place.toList:=by
  refine uT λp=>?_;have q:=wG (J:=range (y.mask+1)) (i:=y.place.toList) ro λf a=>uT λC=>p ⟨f,rh<|en.mp a,C⟩;rw[fQ,c6]at q;have:=j.loose;lia
 let⟨@f,t,A⟩:=this;let⟨@n,b,c⟩:=J9 j.lu d t;exact⟨n,b,by rw[c];exact A⟩
theorem Fj{y:aP}(u:eU y.place)(k:y.dummies = #[])(h:Nat -> Int)(d:Int): ∀(fuel b:Nat),(∃n,b <= n /\ n<b+fuel /\ (b8 y.mask d n).j ∉ y.place.toList) ->
    ∃f,b <= f /\ (∀n,b <= n -> n<f -> ∃a,y.place[a]? = Z (b8 y.mask d n).j /\ h a ≠ d) /\
      ((aP.probe.go y h d fuel (b8 y.mask d b)=Z (.empty (b8 y.mask d f).j V) /\ (b8 y.mask d f).j ∉ y.place.toList) \/
        ∃a,aP.probe.go y h d fuel (b8 y.mask d b)=Z (.candidate (b8 y.mask d f).j a<|b8 y.mask d<|f+1) /\ y.slot (b8 y.mask d f).j=.live a /\ y.place[a]? = Z (b8 y.mask d f).j /\ h a=d)
  |0,b,⟨n,g,e,_⟩ => absurd g ⋯
  |fuel+1,b,⟨n,g,e,p⟩ => by
    by_cases C:(b8 y.mask d b).j ∈ y.place.toList
    · let⟨@a,i,l⟩:=QH u C
      by_cases q:h a=d
      · refine ⟨b,bl _,λn t A => absurd t ⋯,.inr ⟨a, ?_,i,l,q⟩⟩
        unfold aP.probe.go;rw [i];dsimp only;rw [aD (by rw [q]; exact gX _)];rfl
      · have ne:n ≠ b:=λc => p (c ▸ C)
        let⟨@f,t,A,m⟩:=Fj u k h d fuel (b+1) ⟨n,⋯,⋯,p⟩;have c:aP.probe.go y h d (fuel+1) (b8 y.mask d b)=aP.probe.go y h d fuel (b8 y.mask d<|b+1):=by
          rw [aP.probe.go,i];dsimp only;rw [aG (by rw [iQ]; exact q)];rfl
        refine ⟨f,⋯,λn s o => ?_,by rw [c]; exact m⟩;rcases gF b n with L|L
        · exact A n L o
        · rw [show n=b by lia]; exact ⟨a,l,q⟩
    · refine ⟨b,bl _,λn t A => absurd t ⋯,.inl ⟨?_,C⟩⟩
      unfold aP.probe.go;rw [Q2 k C];dsimp only;rw [wh]
def x7(z:Array Sj)(o:Nat)(f:Sj):(aP.insertAt z o f).toList=z.toList.take o++f::z.toList.drop o:=EE z o f
def qT{J:List Sj}{o:Nat}{f D:Sj}:D∈J.take o++f::J.drop o↔D=f\/D∈J:=by
 constructor
 ·intro d;rcases dJ.mp d with d|d
  ·exact .inr (nO d)
  ·rcases cc.mp d with d|d
   ·exact .inl d
   ·exact .inr (lU d)
 ·rintro (rfl|d)
  ·exact di _ (.head _)
  ·rw[<-eW o J]at d;rcases dJ.mp d with d|d
   ·exact ea _ d
   ·exact di _ (.tail _ d)
def H0{g:List Sj}{e:List SX}(b:g.length=e.length)(o:Nat)(f:Sj)(D:SX):(g.take o++f::g.drop o).zip (e.take o++D::e.drop o)=(g.zip e).take o++(f,D)::(g.zip e).drop o:=by
 rw[z2 (by rw[gh,gh,b]),wR];have c:∀(o:Nat) (g:List Sj) (e:List SX),(g.take o).zip (e.take o)=(g.zip e).take o:=λo=>by
  induction o with
  |zero=>intro g e;rfl
  |succ o a=>intro g e;cases g with
   |nil=>rfl
   |cons f g=>cases e with
    |nil=>rfl
    |cons D e=>exact congrArg ((f,D)::·) (a g e)
 have d:∀(o:Nat) (g:List Sj) (e:List SX),(g.drop o).zip (e.drop o)=(g.zip e).drop o:=λo=>by
  induction o with
  |zero=>intro g e;rfl
  |succ o a=>intro g e;cases g with
   |nil=>rfl
   |cons f g=>cases e with
    |nil=>show (g.drop o).zip []=_;rw[FC];rfl
    |cons D e=>exact a g e
 rw[c,d]
def pN.put(j:pN y R6){d:Int}{n:Nat}(i:(b8 y.mask d n).j∉y.place.toList)(g:∀a,a<n->(b8 y.mask d a).j∈y.place.toList):
  (∀r∈(y.put (b8 y.mask d n).j).1.place.toList,r<=y.mask)/\∀o∈(y.put (b8 y.mask d n).j).1.place.toList.zip (R6.take (y.put (b8 y.mask d n).j).2++d::R6.drop (y.put (b8 y.mask d n).j).2),kY y.mask (·∈(y.put (b8 y.mask d n).j).1.place.toList) o.2 o.1:=by
 have c:(y.put (b8 y.mask d n).j).1.place.toList=y.place.toList.take (y.put (b8 y.mask d n).j).2++(b8 y.mask d n).j::y.place.toList.drop (y.put (b8 y.mask d n).j).2:=x7 _ _ _;rw[c];refine⟨λr e=>?_,λo b=>?_⟩
 ·rcases qT.mp e with rfl|e
  ·exact z3 _ _ _
  ·exact j.le r e
 ·rw[H0 (by rw[c6];exact j.len)]at b;rcases qT.mp b with rfl|b
  ·exact⟨n,rfl,λa C=>qT.mpr<|.inr<|g a C⟩
  ·exact (j.mK o b).mono λf h=>qT.mpr (.inr h)
def kG(Su:Array (Option Nat))(r:Nat):Prop:=((Su.getD r<|Z 0).isSome=aa)
theorem Al{i:Nat}(Su:Array (Option Nat))(d:Int):∀(fuel q:Nat),(∀a,a<fx i d q->kG Su (b8 i d a).j)->(∃b,q<=b/\b<q+fuel/\¬ kG Su (cV i d b).1)->
  ∃r,aP.layClean.free i Su fuel (cV i d q).1 (cV i d q).2=Z r/\r<=i/\¬ kG Su r/\kY i (kG Su) d r
 |0,q,_,⟨b,g,e,_⟩=>absurd g ⋯
 |fuel+1,q,f,⟨b,g,e,p⟩=>by
  unfold aP.layClean.free;have le:aP.runEnd i (cV i d q).1<=i:=BV (xn i d q);have Ts:(cV i d q).1<=aP.runEnd i (cV i d q).1:=by unfold aP.runEnd;split<;>lia
  cases h:(range<|aP.runEnd i (cV i d q).1+1-(cV i d q).1).find? (λn=>(Su.getD ((cV i d q).1+n)<|Z 0).isNone) with
  |some n=>
   dsimp only;rw[List.find?_range_eq_some]at h;let@⟨t,A,l⟩:=h;have m:n<aP.runEnd i (cV i d q).1+1-(cV i d q).1:=en.mp A;refine⟨_,rfl,⋯,?_,fx i d q+n,?_,λa k=>?_⟩
   ·unfold kG;intro C;rw[Option.isNone_iff_eq_none]at t;rw[t]at C;cases C
   ·rw[oS (og i d q) n ⋯]
   ·rcases gF a (fx i d q) with C|C
    ·exact f a C
    ·have c:a=fx i d q+(a-fx i d q):=⋯
     rw[c,oS (og i d q) (a-fx i d q) ⋯];have:=l (a-fx i d q) ⋯;show (Su.getD ((cV i d q).1+(a-fx i d q))<|Z 0).isSome=aa;cases H:Su.getD ((cV i d q).1+(a-fx i d q)) (Z 0) with
     |none=>rw[H]at this;cases this
     |some _=>rfl
  |none=>
   dsimp only;rw[List.find?_range_eq_none]at h;have hB:∀n,n<aP.runEnd i (cV i d q).1+1-(cV i d q).1->kG Su ((cV i d q).1+n):=λn f=>by
    have:=h n f;unfold kG;cases H:Su.getD ((cV i d q).1+n) (Z 0) with
    |none=>rw[H]at this;cases this
    |some _=>rfl
   have ne:b≠q:=λc=>p (by rw[c];exact hB 0 ⋯);refine Al Su d fuel (q+1) (λa k=>?_) ⟨b,⋯,⋯,p⟩;rcases gF a (fx i d q) with C|C
   ·exact f a C
   ·have o:a<fx i d q+(aP.runEnd i (cV i d q).1-(cV i d q).1)+1:=k;have c:a=fx i d q+(a-fx i d q):=⋯
    rw[c,oS (og i d q) (a-fx i d q) ⋯];exact hB _ ⋯
structure kJ(i:Nat)(Su:Array (Option Nat))(RY:List Nat)(R6:List Int):Prop where
 size:Su.size=i+1
 len:RY.length=R6.length
 aj:RY.Nodup
 le:∀r∈RY,r<=i
 own:∀(r n:Nat),Su[r]?=Z (Z n)↔RY[n]?=Z r
 mK:∀o∈RY.zip R6,kY i (·∈RY) o.2 o.1
def kJ.hB(l:kJ i Su RY R6){r:Nat}(d:r<=i):kG Su r↔r∈RY:=by
 have b:r<Su.size:=by rw[l.size];lia
 unfold kG;rw[show Su.getD r (Z 0)=Su[r] by simp[Array.getD,b]];have c:Su[r]?=Z Su[r]:=i5 b;constructor
 ·intro C;let⟨@n,a⟩:=EI.mp C;rw[a]at c;exact e0 ((l.own r n).mp c)
 ·intro C;let⟨@n,a⟩:=sh C;have:=(l.own r n).mpr a;rw[c]at this;rw[Option.some.inj this];rfl
def kJ.step{i:Nat}(L:hJ i){Su:Array (Option Nat)}{RY:List Nat}{R6:List Int}(l:kJ i Su RY R6)(D:R6.length<=i)(d:Int):
  ∃r,aP.layClean.free i Su (aP.turns i) (aP.bits d%(i+1)) (aP.bits d)=Z r/\kJ i (Su.setIfInBounds r<|Z R6.length) (RY++[r]) (R6++[d]):=by
 have room:∃f,f<=i/\f∉RY:=by
  refine uT λp=>?_;have q:=wG (J:=range (i+1)) (i:=RY) ro λf h=>uT λC=>p ⟨f,rh<|en.mp h,C⟩;rw[fQ,l.len]at q;lia
 let⟨@f,k,v⟩:=room;let⟨@q,E,w⟩:=Cj L d k;let⟨@r,x,m,y,z⟩:=Al (i:=i) Su d (aP.turns i) 0 (λs j=>absurd j<|qA _) ⟨q,gP _,⋯,by rw[w];exact λC=>v<|(l.hB k).mp C⟩;have t:r∉RY:=λC=>y ((l.hB m).mpr C);have A:r<Su.size:=by rw[l.size];lia
 refine⟨r,x,by rw[Array.size_setIfInBounds,l.size],by rw[d4,d4,l.len];rfl,?_,?_,λu n=>?_,?_⟩
 ·exact c1.mpr ⟨l.aj,eY _ _,λg a e B c=>t (by rw[<-cm.mp B,<-c];exact a)⟩
 ·intro g a;rcases dJ.mp a with a|a
  ·exact l.le g a
  ·rw[cm.mp a];exact m
 ·rw[Array.getElem?_setIfInBounds];by_cases c:r=u
  ·subst c;rw[aD rfl,aD A];constructor
   ·intro C;cases C;rw[<-l.len,kN<|bl _,Gs];rfl
   ·intro C;rcases gF n RY.length with H|H
    ·rw[lY H]at C;exact absurd (e0 C) t
    ·rw[kN H]at C;have:n-RY.length=0:=by
      have:=(e4.mp C).1;rw[mD]at this;lia
     rw[show n=R6.length by rw[<-l.len];lia]
  ·rw[aG c,l.own u n];rcases gF n RY.length with H|H
   ·rw[lY H]
   ·rw[kN H,qL H];constructor
    ·intro C;cases C
    ·intro C;have:=e0 C;exact absurd (cm.mp this) (λC=>c C.symm)
 ·intro o b;rw[z2 l.len]at b;rcases dJ.mp b with b|b
  ·exact (l.mK o b).mono λf h=>ea _ h
  ·rw[wR,List.zip_nil_left]at b;rw[cm.mp b];let⟨@n,c,g⟩:=z;exact⟨n,c,λs j=>ea _<|(l.hB<|z3 _ _ _).mp<|g s j⟩
theorem AS{i:Nat}(L:hJ i):∀(cK R6:List Int) (Su:Array (Option Nat)) (RY:List Nat),kJ i Su RY R6->(R6++cK).length<=i->
  ∃a b,cK.foldl (λ(j:Option (Array (Option Nat)×Nat)) d=>do
   let (f,n) <-j
   let r <-aP.layClean.free i f (aP.turns i) (aP.bits d%(i+1)) (aP.bits d)
   pure (f.setIfInBounds r<|Z n,n+1)) (Z (Su,R6.length))=Z (a,(R6++cK).length)/\kJ i a b (R6++cK)
 |[],R6,Su,RY,l,_=>⟨Su,RY,by rw[bR];rfl,by rw[bR];exact l⟩
 |d::cK,R6,Su,RY,l,g=>by
  let⟨@r,c,k⟩:=l.step L (by rw[d4]at g;lia) d;let⟨a,@b,e,h⟩:=AS L cK (R6++[d]) _ _ k (by rw[bg];exact g);rw[bg]at e h;refine⟨a,b,?_,h⟩;rw[lh];rw[show (R6++[d]).length=R6.length+1 from d4]at e;refine Eq.trans (congrArg (λC=>List.foldl _ C cK) ?_) e;show (aP.layClean.free i Su (aP.turns i) (aP.bits d%(i+1))<|aP.bits d).bind _=_;rw[c];rfl
def J7(L:hJ i)(R6:Array Int)(a:R6.size<=i):∃Su RY,aP.layClean i R6=Z Su/\kJ i Su RY R6.toList:=by
 have b:kJ i (Array.replicate (i+1) V) [] []:=by
  refine⟨Array.size_replicate,rfl,iy,λ_ d=>(fI d).elim,λr n=>⟨λC=>?_,λC=>?_⟩,λ_ d=>(fI d).elim⟩
  ·have:=(nU.mp C).2;rw[Array.getElem_replicate]at this;cases this
  ·simp at C
 let⟨Su,@RY,c,l⟩:=AS L R6.toList [] _ _ b (by rw[iC,c6];exact a);refine⟨Su,RY,?_,l⟩;unfold aP.layClean;rw[<-Array.foldl_toList];exact congrArg (Option.map (·.1)) c
def Hz{o:Nat×Nat}:o∈(range<|i+1).filterMap (λr=>(Su.getD r V).map (r,·))↔o.1<=i/\Su[o.1]?=Z (Z o.2):=by
 rw[tE];constructor
 ·rintro⟨r,t,A⟩;let⟨@n,a,rfl⟩:=cB.mp A;refine⟨rh<|en.mp t,?_⟩;show Su[r]?=Z (Z n);by_cases C:r<Su.size
  ·rw[show Su.getD r V=Su[r] by simp[Array.getD,C]]at a;rw[i5 C,a]
  ·rw[show Su.getD r V=V by simp[Array.getD,C]]at a;cases a
 ·rintro⟨t,A⟩;refine⟨o.1,en.mpr<|Cy t,?_⟩;let⟨@C,c⟩:=nU.mp A;rw[show Su.getD o.1 V=Su[o.1] by simp[Array.getD,C],c];rfl
theorem AQ{Sj SX:Type}:∀{J:List (Sj×SX)},(J.map (·.1)).Nodup->(∀g∈J,∀e∈J,g.2=e.2->g.1=e.1)->(J.map (·.2)).Nodup
 |[],_,_=>iy
 |f::J,d,a=>by
  rw[bY]at d ⊢;have RU:=f9.mp d;refine f9.mpr ⟨λC=>?_,AQ RU.2 λg h e i=>a g (.tail _ h) e<|.tail _ i⟩;let⟨@D,b,c⟩:=dS.mp C;have:=a D (.tail _ b) f (.head _) c;exact RU.1 (by rw[<-this];exact p3 b)
theorem zm{Sj SX Tx:Type}(F:Sj->SX)(L:Sj->Tx):∀J:List Sj,(J.map F).zip (J.map L)=J.map λf=>(F f,L f)
 |[]=>rfl
 |f::J=>congrArg (_::·) (zm F L J)
def Hj{p:Nat}(L:hJ (aP.sizeAbove p-1))(E:U.size*5<(aP.sizeAbove p-1)*3){b:Bool}(n:y.led=b):
  ∃Sw x,y.relaid (U.map (·.1)) p=Z (Sw,x)/\x.toList.Perm (range U.size)/\kb Sw b/\pN Sw ((x.filterMap (U[·]?)).toList.map (·.1)):=by
 let⟨Su,@RY,c,l⟩:=J7 L (U.map (·.1)) (by rw[xa];lia);generalize F:aP.sizeAbove p-1=i at *;have u:y.relaid (U.map (·.1)) p=Z ({mask:=i,place:=(((range<|i+1).filterMap λr=>(Su.getD r V).map (r,·)).map (·.1)).toArray,dummies:=#[],finger:=y.finger,led:=y.led,moves:=y.movedTo i,plain:=y.plain},(((range<|i+1).filterMap λr=>(Su.getD r V).map (r,·)).map (·.2)).toArray):=by
  unfold aP.relaid aP.laid;rw[F,c];rfl
 have k:=λ(o:Nat×Nat)=>Hz (i:=i) (Su:=Su) (o:=o);have v:(((range<|i+1).filterMap λr=>(Su.getD r V).map (r,·)).map (·.1)).Pairwise (· < ·):=by
  have:=(HZ (y:=_) (m:=_) u);exact this.rise
 generalize G:(range<|i+1).filterMap (λr=>(Su.getD r V).map (r,·))=h at u k v;have Sd:∀o∈h,RY[o.2]?=Z o.1:=λo j=>(l.own _ _).mp ((k o).mp j).2;have lt:∀o∈h,o.2<U.size:=λo j=>by
  have:=(e4.mp<|Sd o j).1;rw[l.len,c6,xa]at this;exact this
 have z:(h.map (·.1)).Nodup:=v.imp λd=>cR d;have B:(h.map (·.2)).Nodup:=AQ z λg H e I c=>by
  have t:=Sd g H;have A:=Sd e I;rw[c]at t;exact Option.some.inj (t.symm.trans A)
 have perm:(h.map (·.2)).Perm (range U.size):=by
  refine (List.perm_ext_iff_of_nodup B ro).mpr λf=>?_;rw[en];constructor
  ·intro d;let⟨@o,j,rfl⟩:=dS.mp d;exact lt o j
  ·intro d;have s:f<RY.length:=by rw[l.len,c6,xa];exact d
   have t:RY[f]?=Z RY[f]:=dr s;exact dS.mpr ⟨(RY[f],f),(k _).mpr ⟨l.le _<|uO s,(l.own _ _).mpr t⟩,rfl⟩
 have C:h.length=U.size:=by
  have:=perm.length_eq
  rwa [bt,fQ]at this
 have D:((h.map (·.2)).filterMap (U[·]?)).map (·.1)=h.map λo=>(U.getD o.2 (0,.none)).1:=by
  clear k v Sd z B perm C u G;induction h with
  |nil=>rfl
  |cons o h J=>
   have j:=lt o (.head _);rw[bY,x3<|i5 j,bY,bY,J λq w=>lt q<|.tail _ w];congr 1;simp[Array.getD,j]
 refine⟨_,_,u,?_,⟨?_,rfl,n⟩,⟨L,?_,?_,?_,?_⟩⟩
 ·exact perm
 ·exact v
 ·rw[wb];show (h.map (·.1)).toArray.size=(((h.map (·.2)).filterMap (U[·]?)).map (·.1)).length;rw[D,cO,bt,bt]
 ·show (h.map (·.1)).toArray.size*5<i*3;rw[cO,bt,C];exact E
 ·intro r M;let⟨@o,j,rfl⟩:=dS.mp M;exact ((k o).mp j).1
 ·rw[wb];show ∀o∈(h.map (·.1)).zip (((h.map (·.2)).filterMap (U[·]?)).map (·.1)),kY i (·∈h.map (·.1)) o.2 o.1;rw[D,zm];intro o j;let⟨@q,w,rfl⟩:=dS.mp j;have t:=Sd q w;have A:((U.map (·.1)).toList)[q.2]?=Z (U.getD q.2 (0,.none)).1:=by
   have:=lt q w;rw[eg,Array.getElem?_map,i5 this];simp[Array.getD,this]
  have N:(q.1,(U.getD q.2 (0,.none)).1)∈RY.zip (U.map (·.1)).toList:=by
   refine e0 (i:=q.2) ?_;rw[tj];exact⟨t,A⟩
  refine (l.mK _ N).mono λf s=>?_;let⟨@n,O⟩:=sh s;exact dS.mpr ⟨(f,n),(k _).mpr ⟨l.le f s,(l.own _ _).mpr O⟩,rfl⟩
def PO(L:hJ i)(t:v*5<i*3)(A:(v+1)*5 >= i*3)(a:v+1<=300):hJ (aP.sizeAbove (aP.grown<|v+1)-1)/\(v+1)*5<(aP.sizeAbove (aP.grown<|v+1)-1)*3/\aP.sizeAbove (aP.grown<|v+1)<=512:=by
 rcases L with rfl|rfl|rfl|rfl
 ·rw[show v=4 by lia];exact⟨.inr (.inl ∅),by decide,by decide⟩
 ·rw[show v=18 by lia];exact⟨.inr (.inr (.inl ∅)),by decide,by decide⟩
 ·rw[show v=76 by lia];exact⟨.inr (.inr (.inr ∅)),by decide,by decide⟩
 ·lia
section
variable{R3:bp}{H:a7}
theorem Gp:∀(v:Nat) {O:bf}{RW:ab->ah->Prop}{h:ah}{x:X}{s:ab}{B:Bool->ah->Prop},X.key v x=aa->c0 h.heap x s->(∀e,B e h)->wpAny (aM R3 H) O (sr v s) B RW h
 |v,O,RW,h,.int a,s,B,_,b,d=>by
  let⟨@y,rfl⟩:=b;rw[show sr v (.int a y)=pure aa from by cases v<;>rfl];exact aR (d _)
 |v,O,RW,h,.str a,s,B,_,b,d=>by
  let⟨@y,rfl⟩:=b;rw[show sr v (.str a y)=pure ay from by cases v<;>rfl];exact aR (d _)
 |v+1,O,RW,h,.tup E,s,B,n,b,d=>by
  let⟨g,m,Sm,@i,rfl,j,l,o,RT⟩:=b;have p:h.TypeIs (.ref g) "tuple" := ⟨m,j,l⟩;unfold sr;refine aw (qx p p_.lookup ?_);show wpAny _ _ (oJ (.ref g) >>= _) _ _ h;refine aw (k0 j o ?_);refine aw ?_;show wpAny _ _ (forIn Sm _ _) _ _ h;rw[<-uJ];rw[X.key]at n;refine lR _ (λcK u RV=>RV=h/\∃left,X.keys v left=aa/\dg h.heap left cK) _ ?_ ?_ _ _ ⟨rfl,E,n,RT⟩
  ·rintro s cK u RV ⟨rfl,left,f,k⟩;cases left with
   |nil=>cases (show s::cK=[] from k)
   |cons x left=>
    let⟨w,@SW,c,t,q⟩:=k;cases c;rw[X.keys,cC]at f;refine aw (Gp v f.1 t λe=>?_);cases e
    ·show wpAny _ _ (pure<|ForInStep.done _) _ _ _;exact aR (aR<|d _)
    ·show wpAny _ _ (pure<|ForInStep.yield _) _ _ _;exact aR ⟨rfl,left,f.2,q⟩
  ·rintro⟨r,z⟩ RV ⟨rfl,W⟩;cases r with
   |none=>exact aR (d _)
   |some e=>exact aR (d _)
 |_,_,_,_,.aX,_,_,n,_,_=>by cases ‹Nat›<;>cases n
 |_,_,_,_,.aN _,_,_,n,_,_=>by cases ‹Nat›<;>cases n
 |_,_,_,_,.fn _,_,_,n,_,_=>by cases ‹Nat›<;>cases n
 |_,_,_,_,.aT _,_,_,n,_,_=>by cases ‹Nat›<;>cases n
 |_,_,_,_,.fd _,_,_,n,_,_=>by cases ‹Nat›<;>cases n
 |0,_,_,_,.tup _,_,_,n,_,_=>by cases n
theorem yS:∀(v:Nat) {O:bf}{RW:ab->ah->Prop}{h:ah}{x:X}{s:ab}{B:Bool->ah->Prop},X.key v x=aa->c0 h.heap x s->B ay h->wpAny (aM R3 H) O (rO v s) B RW h
 |v,O,RW,h,.int a,s,B,_,b,d=>by
  let⟨@y,rfl⟩:=b;rw[show rO v (.int a y)=pure ay from by cases v<;>rfl];exact aR d
 |v,O,RW,h,.str a,s,B,_,b,d=>by
  let⟨@y,rfl⟩:=b;rw[show rO v (.str a y)=pure ay from by cases v<;>rfl];exact aR d
 |v+1,O,RW,h,.tup E,s,B,n,b,d=>by
  let⟨g,m,Sm,@i,rfl,j,l,o,RT⟩:=b;have p:h.TypeIs (.ref g) "tuple" := ⟨m,j,l⟩;unfold rO;refine aw (lp p ?_);dsimp only;rw[aD (show ("tuple" == "tuple")=aa by decide)];refine aw (aR ?_);simp only[pg,gE,fl];refine aw (k0 j o ?_);dsimp only;refine aw ?_;show wpAny _ _ (forIn Sm _ _) _ _ h;rw[<-uJ];rw[X.key]at n;refine lR _ (λcK u RV=>u.1=V/\RV=h/\∃left,X.keys v left=aa/\dg h.heap left cK) _ ?_ ?_ _ _ ⟨rfl,rfl,E,n,RT⟩
  ·rintro s cK u RV ⟨e,rfl,left,f,k⟩;cases left with
   |nil=>cases (show s::cK=[] from k)
   |cons x left=>
    let⟨r,@SW,c,t,q⟩:=k;cases c;rw[X.keys,cC]at f;refine aw (yS v f.1 t ?_);simp only[gE,fl];exact aR ⟨rfl,rfl,left,f.2,q⟩
  ·rintro⟨w,z⟩ RV ⟨e,rfl,W⟩;simp only at e;subst e;exact aR d
 |_,_,_,_,.aX,_,_,n,_,_=>by cases ‹Nat›<;>cases n
 |_,_,_,_,.aN _,_,_,n,_,_=>by cases ‹Nat›<;>cases n
 |_,_,_,_,.fn _,_,_,n,_,_=>by cases ‹Nat›<;>cases n
 |_,_,_,_,.aT _,_,_,n,_,_=>by cases ‹Nat›<;>cases n
 |_,_,_,_,.fd _,_,_,n,_,_=>by cases ‹Nat›<;>cases n
 |0,_,_,_,.tup _,_,_,n,_,_=>by cases n
def Lm{O:bf}{RW:ab->ah->Prop}{f:ag}{B:Bool->ah->Prop}(b:(dU R3 H).is h.heap n f){T:List ab}(g:∀s∈T,∃e a,s=.ref e/\(dU R3 H).is h.heap a e)(d:B ay h):
  wpAny (aM R3 H) O (FE (.ref f) T) B RW h:=by
 unfold FE;refine aw ?_;refine lR _ (λcK u RV=>u.1=V/\RV=h/\∀s∈cK,∃e a,s=.ref e/\(dU R3 H).is h.heap a e) _ ?_ ?_ _ _ ⟨rfl,rfl,g⟩
 ·rintro s cK u RV ⟨i,rfl,j⟩;let⟨e,@a,rfl,c⟩:=j s (.head _);have k:∀s∈cK,∃e a,s=.ref e/\(dU R3 H).is RV.heap a e:=λs g=>j s (.tail _ g);dsimp only;cases l:(f==e) with
  |true=>
   simp only[Fx,ia];exact aR ⟨rfl,rfl,k⟩
  |false=>
   simp only[E0];rw[aG (show ¬ ((Bs (ab.ref f)&&Bs (ab.ref e))=aa) from λC=>c4 C)];refine aw (sH 8 (x:=.tup _) b.1 b.2 ?_);simp only[pg,gE,fl];refine aw (sH 8 (x:=.tup _) c.1 c.2 ?_);simp only[pg,gE,fl];refine aw (yS 8 (x:=.tup _) b.1 b.2 ?_);simp only[gE,fl];refine aw (yS 8 (x:=.tup _) c.1 c.2 ?_);simp only[gE,fl];exact aR ⟨rfl,rfl,k⟩
 ·rintro⟨m,o⟩ RV ⟨i,rfl,W⟩;simp only at i;subst i;exact aR d
end
section
variable(H:a7)(R4:List X->ag->Prop)
def su(C:List X×Int×ab):Prop:=(∃e,C.2.2=.ref e/\C.2.1=c3 H (.tup C.1)/\R4 C.1 e)
structure lg(U:Array (Int×ab))(y:aP)(b:Bool)(R:List (List X)):Prop where
 n5:∃SR:List (List X×Int×ab),SR.map (·.2)=U.toList/\(SR.map (·.1)).Perm R/\∀C∈SR,su H R4 C
 tab:kb y b
 bL:pN y (U.toList.map (·.1))
 aj:R.Nodup
def fk(d:aV)(g:ag)(b:Bool)(R:List (List X)):Prop:=(∃m U Ss y,d.get? g=Z m/\m.ExactSet/\m.data=.set U Ss y/\lg H R4 U y b R)
end
section
variable{R3:bp}{H:a7}{R4:List X->ag->Prop}{O:bf}{RW:ab->ah->Prop}
def lg.size(k:lg H R4 U y b R):y.place.size=U.size:=by
 rw[k.bL.len,bt,c6]
def lg.fit(k:lg H R4 U y b R):y.fits U.size=aa:=by
 have:=k.bL.loose;unfold aP.fits aP.fill;rw[k.tab.n9,k.size,cC,iQ,fi];rw[k.size]at this;exact⟨rfl,by show U.size+0<=_;lia⟩
def lg.num(k:lg H R4 U y b R):U.size=R.length:=by
 let⟨@SR,t,A,W⟩:=k.n5;rw[<-A.length_eq,bt,<-c6,<-t,bt]
def Gl(u:eU z){a b r:Nat}(g:z[a]?=Z r)(e:z[b]?=Z r):a=b:=by
 rw[<-xJ u g,<-xJ u e]
def K0{aA:fX}{p:Bool}{i:c8 Bool}{I u:c8 Sj}{B:Sj->ah->Prop}(t:∀a:Bool->ah->Prop,a ay h->wpAny aA O i a RW h)(A:wpAny aA O u B RW h):
  wpAny aA O (if p=aa then (do let e <-i;if e=aa then I else u) else u) B RW h:=by
 cases p
 ·rw[aG c4];exact A
 ·rw[aD rfl];refine aw (t _ ?_);rw[aG c4];exact A
theorem zf{g f:ag}{n:List X}{b:Bool}{R:List (List X)}{m:a3}{U:Array (Int×ab)}{Ss:Nat}{y:aP}{h:ah}{B:SetFound->ah->Prop}{SR:List (List X×Int×ab)}(bv:O.units+20<bD)(I:h.heap.get? g=Z m)(J:m.data=.set U Ss y)(k:lg H R4 U y b R)(M:(dU R3 H).is h.heap n f)(N:∀q e,R4 q e->(dU R3 H).is h.heap q e)(D:SR.map (·.2)=U.toList)(P:(SR.map (·.1)).Perm R)(Q:∀C∈SR,su H R4 C)(ap:n∈R->B (.there V) h)(as:n∉R->∀d0,(b8 y.mask (c3 H<|.tup n) d0).j∉y.place.toList->(∀d,d<d0->(b8 y.mask (c3 H<|.tup n) d).j∈y.place.toList)->B (.free (b8 y.mask (c3 H<|.tup n) d0).j ay) h){hx:Nat}(E:(b8 y.mask (c3 H<|.tup n) hx).j∉y.place.toList)(ca:hx<10*aP.turns y.mask):
  ∀(fuel i:Nat) (Y:Option aP.Probe),Y.getD (y.probeStart<|c3 H<|.tup n)=b8 y.mask (c3 H<|.tup n) i->hx<i+fuel->(∀d,d<i->(b8 y.mask (c3 H<|.tup n) d).j∈y.place.toList)->
   (∀(a d:Nat),d<i->y.place[a]?=Z (b8 y.mask (c3 H<|.tup n) d).j->(SR.map (·.1))[a]?≠Z n)->
   wpAny (aM R3 H) O (C7 g (.ref f) (c3 H<|.tup n) aa fuel Y) B RW h
 |0,i,Y,_,cd,F,_=>by
  refine absurd (F hx ⋯) E
 |fuel+1,i,Y,ce,cd,F,R6=>by
  have ch:i<=hx:=by
   rcases gF hx i with C|C
   ·exact absurd (F hx C) E
   ·exact C
  have ci:SR.length=U.size:=by rw[<-c6,<-D,bt]
  have S:∀(a:Nat) (q:List X),(SR.map (·.1))[a]?=Z q->∃c e,U[a]?=Z c/\c.2=.ref e/\c.1=c3 H (.tup q)/\(dU R3 H).is h.heap q e:=λa q o=>by
   let⟨@C,a1,T⟩:=cB.mp (by rw[dT]at o;exact o);let⟨@e,p,v,x⟩:=Q C (e0 a1);subst T;refine⟨C.2,e,?_,p,v,N _ _ x⟩;rw[<-eg,<-D,dT,a1];rfl
  unfold C7;refine aw (j3 I J k.fit ?_);dsimp only;rw[aG (by unfold aP.gaveWay;rw[iQ];have:=k.bL.lu.pos;lia)];rw[ce];unfold aP.probe;let⟨@l,fr,a2,cl⟩:=Fj k.tab.rise k.tab.n9 (λa=>(U[a]?.map (·.1)).getD 0) (c3 H<|.tup n) (10*aP.turns y.mask) i ⟨hx,ch,⋯,E⟩;have hB:∀d,d<l->(b8 y.mask (c3 H<|.tup n) d).j∈y.place.toList:=λd z=>by
   rcases gF d i with C|C
   ·exact F d C
   ·let⟨@a,t,W⟩:=a2 d C z;rw[<-eg]at t;exact e0 t
  have bd:∀(a d:Nat),d<l->y.place[a]?=Z (b8 y.mask (c3 H<|.tup n) d).j->(SR.map (·.1))[a]?≠Z n:=λa d z u o=>by
   rcases gF d i with C|C
   ·exact R6 a d C u o
   ·let⟨@be,t,A⟩:=a2 d C z;have:=Gl k.tab.rise u t;subst this;let⟨c,@e,p,x,v,al⟩:=S a n o;rw[p]at A;exact A v
  generalize bi:aP.probe.go y _ (c3 H<|.tup n) _ (b8 y.mask (c3 H<|.tup n) i)=L;rcases cl with ⟨c,am⟩|⟨a,c,T,G,f0⟩
  ·cases bi.symm.trans c;refine aR (as (λco=>?_) l am hB);have cr:=P.mem_iff.mpr co;let⟨@a,RT⟩:=sh cr;let⟨c,@e,p,x,v,al⟩:=S a n RT;have w:a<U.size:=(nU.mp p).1;have u:y.place[a]?=Z (y.place[a]'(by rw[k.size];exact w)):=i5 (by rw[k.size];exact w);have cs:(y.place[a]'(by rw[k.size];exact w),c3 H<|.tup n)∈y.place.toList.zip (U.toList.map (·.1)):=by
    refine e0 (i:=a) ?_;rw[tj];refine⟨by rw[eg];exact u,?_⟩;rw[dT,eg,p,<-v];rfl
   let⟨@an,bm,db⟩:=k.bL.mK _ cs;have ds:an<l:=by
    rcases qf an l with C|C|C
    ·exact C
    ·refine absurd ?_ am;rw[<-C,bm];exact Array.getElem_mem_toList ..
    ·exact absurd (db l C) am
   exact bd a an ds (by rw[u,bm]) RT
  ·cases bi.symm.trans c;have w:a<SR.length:=by rw[ci,<-k.size];exact (nU.mp G).1
   have bn:(SR.map (·.1))[a]?=Z SR[a].1:=by rw[dT,dr w];rfl
   let⟨dL,@e,p,x,v,al⟩:=S a _ bn;dsimp only;refine K0 (λf1 q=>Lm M (λs eq=>?_) q) ?_
   ·let⟨@ev,ex,rfl⟩:=dS.mp eq;have bs:ev∈U.toList:=vV.mpr (Array.mem_filter.mp<|vV.mp ex).1;rw[<-D]at bs;let⟨@C,fd,rfl⟩:=dS.mp bs;let⟨@fn,Sx,W,SK⟩:=Q C fd;exact⟨fn,C.1,Sx,N _ _ SK⟩
   ·let⟨f2,f4⟩:=dL;cases x;rw[p];dsimp only;refine aw (fU ((dU R3 H).eqBool (show O.units+10<bD by lia) al M ?_));refine aw (j3 I J k.fit ?_);by_cases o:SR[a].1=n
    ·rw[er o,aD<|show (aa&&aa)=aa from rfl];exact aR (ap (P.mem_iff.mp (by rw[<-o];exact p3 (uO w))))
    ·rw[eX o,aG ∅];dsimp only;rw[show y.sameMemory y.moves y.mask=Z aa by unfold aP.sameMemory;rw[aD (gX _)]];dsimp only;rw[aD rfl,T];dsimp only;rw[p];dsimp only;refine aw (wpAny_isSame_ref_self<|aw<|aR ?_);rw[aD rfl];dsimp only;rw[aG c4];refine zf bv I J k M N D P Q ap as E ca fuel (l+1) _ rfl ⋯ (λd z=>?_) λbe d z u=>?_
     ·rcases gF d l with C|C
      ·exact hB d C
      ·rw[show d=l by lia];rw[<-eg]at G;exact e0 G
     ·rcases gF d l with C|C
      ·exact bd be d C u
      ·rw[show d=l by lia]at u;have:=Gl k.tab.rise u G;subst this;rw[bn];exact λc=>o (Option.some.inj c)
end
def hj(R:List (List X))(n:List X):List (List X):=(if n∈R then R else R++[n])
section
variable{R3:bp}{H:a7}{R4:List X->ag->Prop}{O:bf}{RW:ab->ah->Prop}{h:ah}
structure o8(H:a7)(R4:List X->ag->Prop)(U:Array (Int×ab))(y:aP)(b:Bool)(R:List (List X))(v:Nat):Prop where
 n5:∃SR:List (List X×Int×ab),SR.map (·.2)=U.toList/\(SR.map (·.1)).Perm R/\∀C∈SR,su H R4 C
 tab:kb y b
 lu:hJ y.mask
 len:y.place.size=U.size
 le:∀r∈y.place.toList,r<=y.mask
 mK:∀o∈y.place.toList.zip (U.toList.map (·.1)),kY y.mask (·∈y.place.toList) o.2 o.1
 aj:R.Nodup
 gr:U.size=v+1
 FG:v*5<y.mask*3
def o8.k2(k:o8 H R4 U y b R v):y.fits U.size=aa:=by
 have:=k.FG;have:=k.lu.pos;unfold aP.fits aP.fill;rw[k.tab.n9,k.len,k.gr,cC,iQ,fi];exact⟨rfl,by show v+1+0<=_;lia⟩
def o8.done(k:o8 H R4 U y b R v)(a:¬ ((v+1)*5 >= y.mask*3)):lg H R4 U y b R:=
 ⟨k.n5,k.tab,⟨k.lu,by rw[k.len,bt,c6],by rw[k.len,k.gr];lia,k.le,k.mK⟩,k.aj⟩
def zd{a:Array (Int×ab)}{Sw:aP}(c:d.get? g=Z m)(b:m.data=.set U Ss y):
  (d.update g<|a3.putSet a Sw).get? g=Z {m with data:=.set a (Ss+1) Sw}:=by
 have:=ml (a3.putSet a Sw) c (by rw[putSet_of a Sw b];rfl);rw[putSet_of a Sw b]at this;exact this
theorem xQ{Sj SX:Type}(F:Sj->SX)(J:List Sj)(i:List SX)(b:J.map F=i):∀is:List Nat,(is.filterMap (J[·]?)).map F=is.filterMap (i[·]?)
 |[]=>rfl
 |a::is=>by
  subst b;rw[pY,pY,dT];cases J[a]? with
  |none=>exact xQ F J _ rfl is
  |some f=>exact congrArg (F f::·) (xQ F J _ rfl is)
def BL(J:List Sj):(range J.length).filterMap (J[·]?)=J:=by
 have:=zF J.toArray;simpa using this
def wm{U e:Array (Int × ab)}{f:aP}{R1:Bool -> ah -> Prop}(p:h.heap.get? g=Z m)(q:m.ExactSet)(r:m.data=.set U Ss y)(A:U.size=v)(o:v+1 <= 300)(k:o8 H R4 e f b R v)(d : ∀RU,aV.SameBut g h.heap RU -> fk H R4 RU g b R -> R1 aa {h with heap:=RU}):
    wpAny (aM R3 H) O (do
        storeSet g e f
        if (!ay&&f.tooFull)=aa then do
            setRelay g (aP.grown<|U.size+1)
            pure aa
          else pure aa) R1 RW h:=by
  refine aw (z6 p r ?_ (by rw [k.gr]; exact dx o ∅));have l:=zd (a:=e) (Sw:=f) p r;have s:=mC h.heap g (a3.putSet e f);have t:f.tooFull=decide ((v+1)*5 >= f.mask*3):=by
    unfold aP.tooFull aP.fill;rw [k.tab.n9,k.len,k.gr];rfl
  by_cases n:(v+1)*5 >= f.mask*3
  · rw [t,er n,aD<|show (!ay&&aa)=aa from rfl]
    let@⟨B,D,E⟩:=PO k.lu k.FG n o;unfold setRelay;refine aw (aw<|j3 l rfl k.k2 ?_);dsimp only;rw [A,aG (λC => absurd (ef C E) ∅)];let⟨Sw, @j,F,u,G,I⟩:=Hj (y:=f) (U:=e) (p:=aP.grown (v+1)) B (by rw [k.gr]; exact D) k.tab.led;rw [F];have w:(j.filterMap (e[·]?)).toList=j.toList.filterMap (e.toList[·]?):=by
      rw [wb];simp
    have J:(j.filterMap (e[·]?)).toList.Perm e.toList:=by
      rw [w];refine (u.filterMap _).trans ?_;rw [<-c6,BL]
    have x:(j.filterMap (e[·]?)).size=e.size:=by rw [<-c6,J.length_eq,c6]
    refine aw (m:=if ((j.filterMap (e[·]?)).size != e.size)=aa then _ else _) ?_;rw [x,aG ↥0];refine aR ?_;dsimp only;refine z6 l rfl ?_ (by rw [x,k.gr]; exact dx o ∅);refine aR (d _ (s.trans<|mC _ g _) ⟨_,_,_,_,zd l rfl,q,rfl, ?_,G,I,k.aj⟩);let⟨@SR,z,L,M⟩:=k.n5;refine ⟨j.toList.filterMap (SR[·]?), ?_, ?_,λC N => ?_⟩
    · rw [w]
      exact xQ (·.2) SR _ z _
    · refine (t8 _ ?_).trans L
      refine (u.filterMap _).trans ?_;rw [show e.size=SR.length by rw [<-c6, <-z,bt],BL]
    · let⟨@a,W,c⟩:=tE.mp N
      exact M C (e0 c)
  · rw [t,eX n,aG (show ¬ ((!ay&&ay)=aa) from by decide)]
    refine aR (d _ s ⟨_,_,_,_,l,q,rfl,k.done n⟩)
def Ql{f:ag}{B:Bool->ah->Prop}(L:O.units+20<bD)(Se:fk H R4 h.heap g b R)(t:(dU R3 H).is h.heap n f)(M:R4 n f)(N:∀q e,R4 q e->(dU R3 H).is h.heap q e)(P:R.length+1<=300)(d:∀e RU,aV.SameBut g h.heap RU->fk H R4 RU g b (hj R n)->B e {h with heap:=RU}):
  wpAny (aM R3 H) O (setAddHashed g (.ref f)<|c3 H<|.tup n) B RW h:=by
 let⟨m,U,Ss,@y,i,p,l,k⟩:=Se;have bd:=k;let⟨@SR,A,E,F⟩:=k.n5;let⟨@hx,G,Q⟩:=k.bL.some (c3 H<|.tup n);have be:=k.bL.lu.pos;unfold setAddHashed setAddHashedIn;refine fU (aw<|j3 i l k.fit ?_);dsimp only;rw[aG (show ¬ (byScan (ab.ref f) U=aa) from λC=>c4 C)];unfold setSearch;refine aw (zf L i l k t N A E F (λs=>?_) (λs d0 I S=>?_) Q G 100000 0 V rfl (by unfold aP.turns at G;lia) (λT C=>absurd C<|qA _) λa T C=>absurd C<|qA _)
 ·refine aR ?_;have c:h={h with heap:=h.heap}:=by cases h;rfl
  rw[c];refine d _ _ (aV.SameBut.refl g h.heap) ?_;rw[hj,aD s];exact⟨m,U,Ss,y,i,p,l,k⟩
 ·dsimp only;refine aw (j3 i l k.fit ?_);dsimp only;let@⟨al,SU⟩:=k.bL.put (d:=c3 H (.tup n)) I S;have am:¬ (y.place[aP.below y.place (b8 y.mask (c3 H<|.tup n) d0).j]?=Z (b8 y.mask (c3 H<|.tup n) d0).j):=λC=>I (by rw[<-eg]at C;exact e0 C);have an:=k.tab.put am;have u:∀e:Bool,o8 H R4 (aP.insertAt U (y.put (b8 y.mask (c3 H<|.tup n) d0).j).2 (c3 H<|.tup n,.ref f)) { (y.put (b8 y.mask (c3 H<|.tup n) d0).j).1 with plain:=e} b (R++[n]) U.size:=λe=>by
   have v:(aP.insertAt U (y.put (b8 y.mask (c3 H<|.tup n) d0).j).2 (c3 H<|.tup n,ab.ref f)).toList=_:=x7 _ _ _;have ap:(y.put (b8 y.mask (c3 H<|.tup n) d0).j).1.place.toList=_:=x7 _ _ _;have J:(aP.insertAt U (y.put (b8 y.mask (c3 H<|.tup n) d0).j).2 (c3 H<|.tup n,ab.ref f)).size=U.size+1:=by
    rw[<-c6,v,d4,dA,gh,gv,c6];lia
   refine⟨⟨SR.take (y.put (b8 y.mask (c3 H<|.tup n) d0).j).2++(n,c3 H<|.tup n,.ref f)::SR.drop (y.put (b8 y.mask (c3 H<|.tup n) d0).j).2,?_,?_,λC o=>?_⟩,an.LH e,k.bL.lu,?_,al,?_,?_,J,?_⟩
   ·rw[v,<-A,gq,bY,iB,iV]
   ·rw[gq,bY,iB,iV];refine List.perm_middle.trans ?_;rw[eW];exact (E.cons n).trans (cW (l₁:=[n]))
   ·rcases qT.mp o with rfl|o
    ·exact⟨f,rfl,rfl,M⟩
    ·exact F C o
   ·show (y.put (b8 y.mask (c3 H<|.tup n) d0).j).1.place.size=_;rw[J,<-c6,ap,d4,dA,gh,gv,c6,k.size];lia
   ·rw[v,gq,bY,iB,iV];exact SU
   ·exact c1.mpr ⟨k.aj,eY _ n,λD as C o=>by cases cm.mp o;exact λc=>s<|c ▸ as⟩
   ·have:=k.bL.loose;rw[k.size]at this;exact this
  have w:∀RU,aV.SameBut g h.heap RU->fk H R4 RU g b (R++[n])->B aa {h with heap:=RU}:=λRU a1 a2=>d aa RU a1 (by rw[hj,aG s];exact a2);have z:U.size+1<=300:=by rw[k.num];exact P
  split
  ·refine aw (Gp 8 (x:=.tup n) t.1 t.2 λe=>?_);cases e
   ·exact wm i p l rfl z (u ay) w
   ·exact wm i p l rfl z (u _) w
  ·refine aw (aR ?_);exact wm i p l rfl z (u _) w
end
def gW(H:a7):Bool:=(!H.params.followText "set-order")
def kP(b:Bool):a3:=({cls:=.type "set",dict:=V,data:=.set #[] 0 (.fresh 0 0 b)})
section
variable{R3:bp}{H:a7}{O:bf}{RW:ab->ah->Prop}{h:ah}
def GX(g:ab){a:ab->ah->Prop}(d:a (.ref h.heap.objs.size) {h with heap:=h.heap.push (kP<|gW H)}):
  codeAny (aM R3 H) O (.call (.builtin "set.__new__") ⟨[.type "set",g],[]⟩) (wants a RW) h:=by
 refine Bm ?_;show wpAny _ O.in1 (do checkBuiltinCall "set.__new__" ⟨[.type "set",g],[]⟩;again (.builtin "set.__new__" ⟨[.type "set",g],[]⟩)) _ _ h;refine aw (tw (PySem.F.newCall_set_1 g)<|aR ⟨jl AN _,jw PySem.F.entry_set_new ?_⟩);rw[ke AN _];unfold bq.«set.__new__» bq.Frozenset.newClass;have b:=sub_set_self;let⟨c,L,x,SD,M⟩:=h;dsimp only
 wp_walk
 refine wU (aR ?_);dsimp only;simp only[newObj];refine aw (yf<|aR ?_);exact aR d
end
def p9:Slot "set_iterator" "__next__" "set_iterator.__next__" :=
 .of (owner := "set_iterator") (n := "__next__") (by rw[xN,wX];kernel_rfl) (by decide +kernel) (by decide +kernel) (by decide +kernel)
  (by first|exact .inl (by decide +kernel)|exact .inr (by decide +kernel)) (by rw[p2];kernel_rfl)
def OF:nX pM "set_iterator.__next__" = Z bq.«set_iterator.__next__»:=Au (by kernel_rfl)
def CR:Manifest.owners.lookup (String.ofList ['r','o','t','a','r','e','t','i','_','t','e','s'].reverse)=Z Manifest.sig_set_iterator:=by kernel_rfl
def QV(g:ab):pZ "set_iterator.__next__" ⟨[g],[]⟩:=by
 unfold pZ;rw[zV (id := "set_iterator.__next__") (n:=['_','_','t','x','e','n','_','_']) (o:=['r','o','t','a','r','e','t','i','_','t','e','s']) (by kernel_rfl) CR];kernel_rfl
def Hg:nX pM "set.__iter__" = Z bq.«frozenset.__iter__»:=
 Ca (id' := "frozenset.__iter__") (by kernel_rfl) rfl (by decide +kernel) (by kernel_rfl)
def zh:Slot "set_iterator" "__iter__" "set_iterator.__iter__" :=
 .of (owner := "set_iterator") (n := "__iter__") (by rw[xN,wX];kernel_rfl) (by decide +kernel) (by decide +kernel) (by decide +kernel)
  (by first|exact .inl (by decide +kernel)|exact .inr (by decide +kernel)) (by rw[p2];kernel_rfl)
def OS(g:ab):pZ "set_iterator.__iter__" ⟨[g],[]⟩:=by
 unfold pZ;rw[zV (id := "set_iterator.__iter__") (n:=['_','_','r','e','t','i','_','_']) (o:=['r','o','t','a','r','e','t','i','_','t','e','s']) (by kernel_rfl) CR];kernel_rfl
def Rg:nX pM "set_iterator.__iter__" = Z bq.«dict_keyiterator.__iter__»:=
 Ca (id' := "dict_keyiterator.__iter__") (by kernel_rfl) (by first|rfl|decide +kernel|(unfold String.splitOn;simp +decide [String.splitOnAux])) (by decide +kernel) (by kernel_rfl)
def fW(d:aV)(l:ag)(Te:ab)(a:Nat)(Se:ag)(v Ss:Nat):Prop:=(∃m,d.get? l=Z m/\m.cls=.type "set_iterator" /\ m.data=.fields #[Te,.int a 0,.ref Se,.int v 0,.int Ss 0])
def h8(d:aV)(Se:ag)(U:Array (Int×ab))(Ss:Nat)(y:aP):Prop:=(∃m,d.get? Se=Z m/\m.ExactSet/\m.data=.set U Ss y)
def fW.go(f:fW d l Te a Se v Ss)(n:∀m,d.get? l=Z m->RU.get? l=Z m):fW RU l Te a Se v Ss:=let ⟨m,c,u⟩:=f;⟨m,n m c,u⟩
def h8.go(f:h8 d Se U Ss y)(n:∀m,d.get? Se=Z m->RU.get? Se=Z m):h8 RU Se U Ss y:=let ⟨m,c,u⟩:=f;⟨m,n m c,u⟩
section
variable{R3:bp}{H:a7}{O:bf}{RW:ab->ah->Prop}{h:ah}
def fW.ty(f:fW h.heap l Te a Se v Ss):h.TypeIs (.ref l) "set_iterator" := let ⟨m,c,p,_⟩:=f;⟨m,c,p⟩
def Nv{aA:fX}{b:Source}{B:Nat->ah->Prop}(c:0<v)(d:∀a,a<v->B a {h with drawn:=h.drawn.bump b}):wpAny aA O (choose b v) B RW h:=
 λ_ W W=>⟨kD c,d _<|jV _ c⟩
theorem oc{Sj:Type}:∀(J:List Sj) (a:Nat) (d:a<J.length),(J[a]::J.eraseIdx a).Perm J
 |f::z,0,_=>.refl _
 |f::z,a+1,d=>(List.Perm.swap f _ _).trans (List.Perm.cons f<|oc z a<|yD d)
theorem Cx{Sj:Type}{aA:fX}:∀(v:Nat) (z:List Sj) (h:ah) (B:List Sj->ah->Prop),z.length=v->(∀x Sh,List.Perm Sh z->B Sh {h with drawn:=x})->wpAny aA O (wt v z) B RW h
 |0,z,h,B,b,d=>by
  have c:z=[]:=mW b;subst c;unfold wt;exact aR (d h.drawn [] .nil)
 |v+1,[],h,B,b,d=>by cases b
 |v+1,f::z,h,B,b,d=>by
  unfold wt;refine aw (Nv (by rw[b];exact rl _) λa RT=>?_);have c:(f::z)[a]?=Z (f::z)[a]:=dr RT;rw[c];dsimp only;refine aw (Cx v _ _ _ (by rw[Et RT,b];rfl) λx Sh e=>?_);refine aR (d x _ ?_);refine (List.Perm.cons _ e).trans ?_;exact oc _ a RT
def tK(b:fW h.heap l Te a Se v Ss)(d:wpAny (aM R3 H) O.in1 (bq.«set_iterator.__next__» ⟨[.ref l],[]⟩) (λf RV=>∃s,f=.done (.ret s)/\B (Z s) RV) (λc RV=>wpAny (aM R3 H) O (do let e <-yT c (.type "StopIteration");if e=aa then pure V else throw c) B RW RV) h):
  wpAny (aM R3 H) O (fz<|.ref l) B RW h:=by
 unfold fz;refine aw (tF<|rm (name:=au.ofString "__next__") b.ty p9<|i0 p9 b.ty OF ?C<|QV _)
 case C=>
  refine gT d (λf RV ⟨s,c,q⟩=>⟨s,c,aR q⟩) λc RV q=>q
def sz{c:ab}{d:Nat}{B:Unit->ah->Prop}{n:Nat}(g:fW h.heap l Te a Se v Ss)(i:n<5)(j:(#[Te,.int a 0,.ref Se,.int v 0,.int Ss 0]:Array ab).setIfInBounds n f=#[c,.int d 0,.ref Se,.int v 0,.int Ss 0])(q:∀RU,fW RU l c d Se v Ss->aV.SameBut l h.heap RU->B () {h with heap:=RU}):wpAny (aM R3 H) O (xl (.ref l) n f) B RW h:=by
 let⟨@m,e,k,b⟩:=g;refine rI e b i (q _ ⟨_,ml _ e<|Ba<|ur b _,(Gq ..).trans k,?_⟩<|mC ..);rw[ur b,j]
def As(a:O.handled=V)(q:∀RU,aV.ExtBut l h.heap RU->B V {h with heap:=RU}):
  wpAny (aM R3 H) O.in1 (uE (.type "StopIteration") [] >>= λf=>(raiseNew f:c8 PySem.Fin)) (λb RV=>∃s,b=.done (.ret s)/\B (Z s) RV) (λc RV=>wpAny (aM R3 H) O (do let e <-yT c (.type "StopIteration");if e=aa then pure V else throw c) B RW RV) h:=by
 apply aw;simp only[uE,wF];refine aw (gp (aw (m:=tV _ _) (tw (a:=ab.none) (by first|rfl|(simp only[tV];rfl)) (gp ?_ (by size_fits)))) (by size_fits));simp only[raiseNew];apply aw;apply Bw;rw[show O.in1.handled=V from a];refine aw (m:=pure _) (aR<|wpAny_throw ?_);apply aw;refine sk (T := "StopIteration") (b:=aa) ⟨_,dh _ rfl,rfl⟩ EZ ?_;exact aR (q _<|λe m W c=>cg _<|cg _ c)
def BC{next:Nat}(b:fW h.heap l (.int Ta 0) a Se v Ss)(d:h8 h.heap Se U Ss y)(e:y.fits U.size=aa)(g:U.size=v)(j:∀(c:Option (ab×Nat)->ah->Prop) (k:ab->ah->Prop),c (Z (f,next)) h->wpAny (aM R3 H) O.in1 (lA Se Ta a Ss) c k h)(q:∀RU,fW RU l (.int next 0) (a+1) Se v Ss->aV.SameBut l h.heap RU->B (Z f) {h with heap:=RU}):wpAny (aM R3 H) O (fz<|.ref l) B RW h:=by
 refine tK b ?_;let⟨@m,n,D,o⟩:=id b;let⟨@E,p,F,r⟩:=d;unfold bq.«set_iterator.__next__»;refine aw (aR<|aw<|ou n o ?_);show wpAny _ _ (tC Se >>= _) _ _ _;refine aw (rr p r e ?_);dsimp only;rw[aG (by rw[g];simp)];refine aw (m:=lA Se _ _ _) (j _ _ ?_);dsimp only;refine aw (sz (c:=.int next 0) (d:=a) b ∅ rfl λt w x=>?_);refine aw (sz (h:={h with heap:=t}) (c:=.int next 0) (d:=a+1) w ∅ rfl λA z C=>?_);exact aR ⟨_,rfl,q A z<|x.trans C⟩
def BU(k:O.handled=V)(b:fW h.heap l (.int Ta 0) a Se v Ss)(n:h8 h.heap Se U Ss y)(o:y.fits U.size=aa)(p:U.size=v)(r:∀(d:Option (ab×Nat)->ah->Prop) (s:ab->ah->Prop),d V h->wpAny (aM R3 H) O.in1 (lA Se Ta a Ss) d s h)(q:∀RU,aV.ExtBut l h.heap RU->B V {h with heap:=RU}):wpAny (aM R3 H) O (fz<|.ref l) B RW h:=by
 refine tK b ?_;let⟨@m,f,x,g⟩:=id b;let⟨@z,t,A,u⟩:=n;unfold bq.«set_iterator.__next__»;refine aw (aR<|aw<|ou f g ?_);show wpAny _ _ (tC Se >>= _) _ _ _;refine aw (rr t u o ?_);dsimp only;rw[aG (by rw[p];simp)];refine aw (m:=lA Se _ _ _) (r _ _ ?_);dsimp only;refine aw (rI f g (show 2<5 by decide) ?_);exact As (l:=l) k λRU w=>q RU λe m j c=>w e m j ((mC ..).extBut e m j c)
def M1{c:Nat}{SD:gJ}{f:Int×ab}(b:fW h.heap l (.ref S1) a Se v Ss)(i:h8 h.heap Se U Ss y)(d:y.fits U.size=aa)(j:U.size=v)(A:h.heap.get? S1=Z SE)(SK:SE.data=.seq a5 S8)(k:a5[a]?=Z (.int c SD))(n:U[c]?=Z f)(q:∀RU,fW RU l (.ref S1) (a+1) Se v Ss->aV.SameBut l h.heap RU->B (Z f.2) {h with heap:=RU}):wpAny (aM R3 H) O (fz<|.ref l) B RW h:=by
 refine tK b ?_;let⟨@m,o,u,p⟩:=id b;let⟨@w,e,x,g⟩:=i;unfold bq.«set_iterator.__next__»;refine aw (aR<|aw<|ou o p ?_);show wpAny _ _ (tC Se >>= _) _ _ _;refine aw (rr e g d ?_);dsimp only;rw[aG (by rw[j];simp)];show wpAny _ _ (oJ (.ref S1) >>= _) _ _ _;refine aw (k0 A SK ?_);dsimp only;rw[qg,k];dsimp only;show wpAny _ _ (setNextDrawn Se _ _ >>= _) _ _ _;unfold setNextDrawn;refine aw (aw<|j3 e g d ?_);dsimp only;rw[aG ↥0,qg,n];dsimp only;refine aR ?_;refine aw (sz (c:=.ref S1) (d:=a+1) b ∅ rfl λt r s=>?_);exact aR ⟨_,rfl,q t r s⟩
def Oy(f:O.handled=V)(b:fW h.heap l (.ref S1) a Se v Ss)(g:h8 h.heap Se U Ss y)(i:y.fits U.size=aa)(j:U.size=v)(A:h.heap.get? S1=Z SE)(SK:SE.data=.seq a5 S8)(k:a5[a]?=V)(q:∀RU,aV.ExtBut l h.heap RU->B V {h with heap:=RU}):wpAny (aM R3 H) O (fz<|.ref l) B RW h:=by
 refine tK b ?_;let⟨@m,n,C,o⟩:=id b;let⟨@D,p,E,r⟩:=g;unfold bq.«set_iterator.__next__»;refine aw (aR<|aw<|ou n o ?_);show wpAny _ _ (tC Se >>= _) _ _ _;refine aw (rr p r i ?_);dsimp only;rw[aG (by rw[j];simp)];show wpAny _ _ (oJ (.ref S1) >>= _) _ _ _;refine aw (k0 A SK ?_);dsimp only;rw[qg,k];dsimp only;refine aw (sz (c:=.int 0 0) (d:=a) b ∅ rfl λt s u=>?_);let⟨@SG,w,I,x⟩:=s;refine aw (rI (s:={h with heap:=t}) w x (show 2<5 by decide) ?_);exact As (l:=l) f λRU z=>q RU λe m d c=>z e m d ((mC ..).extBut e m d<|u.extBut e m d c)
end
def ik(val:Nat->List X):Nat->List (List X)
 |0=>[]
 |a+1=>hj (ik val a) (val a)
def fk.fresh(b:Bool):fk H R4 (d.push<|kP b) d.objs.size b []:=
 ⟨_,#[],0,_,dh _ rfl,⟨rfl,rfl,rfl⟩,rfl,⟨[],rfl,.nil,λC a=>(fI a).elim⟩,⟨List.Pairwise.nil,rfl,rfl⟩,⟨.inl rfl,rfl,show 0*5<7*3 by decide,λr c=>(fI c).elim,λo e=>(fI e).elim⟩,iy⟩
def fk.at(Se:fk H R4 d g b R)(n:∀m,d.get? g=Z m->RU.get? g=Z m):fk H R4 RU g b R:=by
 let⟨m,U,Ss,@y,a,u⟩:=Se;exact⟨m,U,Ss,y,n m a,u⟩
section
variable{R3:bp}{H:a7}{R4:List X->ag->Prop}{O:bf}{RW:ab->ah->Prop}{h:ah}
def JI{R1:mA->ah->Prop}{bU D:List ag}{G:Nat->ab->Prop}{aZ:Nat->aV->Prop}{k:aV}(bd:O.units+25<bD)(W:jx R3 H O.in1 l bU D v G aZ)(J:Se∉bU)(val:Nat->List X)(P:∀a s,G a s->∃e,s=.ref e/\R4 (val a) e)(L:∀q e,R4 q e->(dU R3 H).is k q e)(g:∀e m,k.get? e=Z m->e∉D)(Q:∀I Sm i,k.get? Se=Z I->I.data=.seq Sm i->False)(R:∀a,a<v->(ik val a).length+1<=300):
  ∀(n a:Nat) (h:ah),v-a=n->a<=v->sO k h.heap->aZ a h.heap->fk H R4 h.heap Se b (ik val a)->
   (∀RU SD,(∀e m,e≠Se->e∉D->h.heap.get? e=Z m->RU.get? e=Z m)->fk H R4 RU Se b (ik val v)->R1 (.ok<|.ret .none) {h with heap:=RU,toks:=SD})->
   codeAny (aM R3 H) O (.builtin "set.update.loop" ⟨[.ref Se,.ref l],[]⟩) R1 h:=by
 have M:Se∉D:=λd=>J (W.sub _ d);intro n;induction n with
 |zero=>
  intro a h S RT R8 u w x;have T:a=v:=⋯
  subst T;refine jw Fs ?_;rw[ke yK _];show wpAny _ O.in1 (fz (.ref l) >>= _) _ _ h;refine aw (W.done h _ _ u λRU SD j=>?_);show wpAny _ O.in1 (ret ab.none) _ _ _;exact aR (x RU SD (λe m K g c=>j e m g c)<|w.at λm c=>j Se m M c)
 |succ n U=>
  intro a h S RT R8 u w x;have y:a<v:=⋯
  refine jw Fs ?_;rw[ke yK _];show wpAny _ O.in1 (fz (.ref l) >>= _) _ _ h;refine aw (W.item a h _ _ y u λs t be al am j=>?_);let⟨@f,rfl,z⟩:=P a s al;have N:sO k t:=λe m Sm i o B p=>j e m (g e m o) (R8 e m Sm i o B p);have E:∀q e,R4 q e->(dU R3 H).is t q e:=λq e C=>⟨(L q e C).1,(L q e C).2.keep N⟩;show wpAny _ O.in1 (holding [ab.ref f] (setAdd Se<|.ref f) >>= _) _ _ _;refine aw (fU ?_);unfold setAdd;refine fU ?_;refine aw ((dU R3 H).pyHash (k:=val a) (show O.units+1+10<bD by lia) (E _ _ z) ?_);refine Ql (h:={h with heap:=t,toks:=_}) (show O.units+1+20<bD by lia) (w.at λm c=>j Se m M c) (E _ _ z) z E (R a y) λe A F an=>?_;refine aR ⟨jl yK _,U (a+1) _ ⋯ y (λe m Sm i o B p=>?_) (W.frame _ t A am λe r m c=>?_) an λap as a1 a2=>?_⟩
  ·show A.get? e=Z m;rw[F.2 e (λd:e=Se=>Q m Sm i (d ▸ o) p)];exact N e m Sm i o B p
  ·rw[F.2 e (λd:e=Se=>J (by rw[<-d];exact r))];exact c
  ·refine x ap as (λe m r g c=>a1 e m r g ?_) a2;show A.get? e=Z m;rw[F.2 e r];exact j e m g c
end
section
variable{R3:bp}{H:a7}{O:bf}{RW:ab->ah->Prop}{h:ah}
theorem CF{Sj:Type}(next:Nat->Nat):∀(fuel n:Nat) (left:List Sj) (out:Array Sj),left.length=fuel->(iN.go next fuel n left out).toList.Perm (out.toList++left)
 |0,n,left,out,d=>by
  have c:left=[]:=mW d;subst c;unfold iN.go;rw[bR]
 |fuel+1,n,left,out,d=>by
  unfold iN.go;have RT:next n%left.length<left.length:=jV _ (by rw[d];exact rl _)
  rw[dr RT];dsimp only;refine (CF next fuel (n+1) _ _ (by rw[Et RT,d];rfl)).trans ?_;rw[yO,bg];exact dp _ (oc _ _ RT)
def Qy(next:Nat->Nat)(z:Array Sj):(iN next z).toList.Perm z.toList:=CF next z.size 0 z.toList #[] (by rw[c6])
def sY{B:Bool->ah->Prop}(d:B (H.params.followText "set-order") h):wpAny (aM R3 H) O setsByText B RW h:=by
 unfold setsByText;exact aw (wU<|aR d)
variable{B:Option (ab×Nat)->ah->Prop}
def y6(c:h8 h.heap Se U Ss y)(d:y.fits U.size=aa)(e:H.params.followText "set-order" = ay)(g:(!y.plain&&decide (U.size>1))=ay)(j:y.led=aa)(k:aP.below y.place Ta=a)(q:B (match U[a]?,y.place[a]? with|some (_,f),Z r=>Z (f,r+1)|_,_=>V) h):wpAny (aM R3 H) O (lA Se Ta L Ss) B RW h:=by
 let⟨@m,l,o,n⟩:=c;unfold lA;refine aw (j3 l n d ?_);dsimp only;refine aw (sY ?_);rw[e,aG c4];show wpAny _ _ (if (!y.plain&&decide (U.size>1))=aa then _ else _) _ _ _;rw[g,aG c4];show wpAny _ _ ((if (!y.led && !U.isEmpty)=aa then (unsupported "set:maker-not-led" : c8 Unit) else pure ()) >>= _) _ _ _;rw[j];refine aw (m:=pure ()) (aR ?_);rw[k];exact aR q
def FU(f:h8 h.heap Se U Ss y)(a:y.fits U.size=aa)(b:H.params.followText "set-order" = aa)(q:B (((iN (H.params.setOrder Se Ss) U)[L]?).map λc=>(c.2,Ta)) h):wpAny (aM R3 H) O (lA Se Ta L Ss) B RW h:=by
 let⟨@m,d,g,e⟩:=f;unfold lA;refine aw (j3 d e a ?_);dsimp only;refine aw (sY ?_);rw[b,aD rfl,aG ↥0];unfold setWalk;refine aw (aw<|j3 d e a ?_);dsimp only;refine aw (sY ?_);rw[b,aD rfl];exact aw (wU<|aR<|aR q)
def vZ{B:ab->ah->Prop}(b:fW h.heap l Te a Se v Ss)(q:B (.ref l) h):wpAny (aM R3 H) O (nA<|.ref l) B RW h:=by
 refine ys b.ty zh (i0 zh b.ty Rg ?_<|OS _);show wpAny _ _ (ret<|.ref l) _ _ h;exact aR ⟨_,rfl,"set_iterator",_,b.ty,p9.lookup,q⟩
def vn(b:Array Nat):Nat->Nat
 |0=>0
 |a+1=>b.getD a 0+1
theorem B1{b:Array Nat}(u:eU b):∀{a:Nat},a<=b.size->aP.below b (vn b a)=a
 |0,_=>Od u
 |a+1,d=>by
  have c:b[a]?=Z (b.getD a 0):=by simp[Array.getD,show a<b.size from d]
  exact Lj u c
def ka(U:Array (Int×ab)):List ab:=(U.toList.map (·.2))
def tr(U:Array (Int×ab)):(ka U).length=U.size:=by rw[ka,bt,c6]
theorem QM(w:O.handled=V)(ne:Se≠l)(i:y.fits U.size=aa)(o:H.params.followText "set-order" = ay)(r:(!y.plain&&decide (U.size>1))=ay)(t:y.led=aa)(u:eU y.place):
  jx R3 H O l [l,Se] [l] (ka U).length (λa s=>(ka U)[a]?=Z s) (λa d=>fW d l (.int (vn y.place a) 0) a Se U.size Ss/\h8 d Se U Ss y) where
 sub:=λe x=>by
  have:e=l:=by simpa using x
  simp[this]
 frame:=λa d RU Y n=>⟨Y.1.go (n l ↥0),Y.2.go (n Se ↥0)⟩
 item:=λa h B RW RT Y j=>by
  rw[tr]at RT;have z:y.place.size=U.size:=by
   simp only[aP.fits,cC,iQ]at i;exact i.1
  have v:U[a]?=Z U[a]:=i5 RT;have A:y.place[a]?=Z (y.place.getD a 0):=by simp[Array.getD,show a<y.place.size by lia]
  have C:(ka U)[a]?=Z U[a].2:=by rw[ka,dT,eg,v];rfl
  refine BC (next:=vn y.place (a+1)) (f:=U[a].2) Y.1 Y.2 i rfl (λD E q=>y6 Y.2 i o r t (B1 u ⋯) ?_) λRU g e=>j _ RU h.toks C ⟨g,Y.2.go λm c=>e.extBut Se m ne c⟩ λp m k c=>e.extBut p m ⇑k c;rw[v,A];exact q
 done:=λh B RW Y j=>by
  rw[tr]at Y;have z:y.place.size=U.size:=by
   simp only[aP.fits,cC,iQ]at i;exact i.1
  refine BU w Y.1 Y.2 i rfl (λD E q=>y6 Y.2 i o r t (B1 u ⋯) ?_) λRU e=>j RU h.toks λp m k c=>e p m ⇑k c;rw[xX (bl _)];exact q
 self:=λa h B RW Y j=>vZ Y.1 j
theorem Py(r:O.handled=V)(ne:Se≠l)(i:y.fits U.size=aa)(k:H.params.followText "set-order" = aa):
  jx R3 H O l [l,Se] [l] (ka<|iN (H.params.setOrder Se Ss) U).length (λa s=>(ka<|iN (H.params.setOrder Se Ss) U)[a]?=Z s) (λa d=>fW d l (.int (0:Nat) 0) a Se U.size Ss/\h8 d Se U Ss y) where
 sub:=λe t=>by
  have:e=l:=by simpa using t
  simp[this]
 frame:=λa d RU Y n=>⟨Y.1.go (n l ↥0),Y.2.go (n Se ↥0)⟩
 item:=λa h B RW RT Y b=>by
  rw[tr]at RT;have o:(iN (H.params.setOrder Se Ss) U)[a]?=Z (iN (H.params.setOrder Se Ss) U)[a]:=i5 RT;have u:(ka<|iN (H.params.setOrder Se Ss) U)[a]?=Z (iN (H.params.setOrder Se Ss) U)[a].2:=by rw[ka,dT,eg,o];rfl
  refine BC (next:=0) (f:=(iN (H.params.setOrder Se Ss) U)[a].2) Y.1 Y.2 i rfl (λv w q=>FU Y.2 i k ?_) λRU g e=>b _ RU h.toks u ⟨g,Y.2.go λm c=>e.extBut Se m ne c⟩ λp m j c=>e.extBut p m ⇑j c;rw[o];exact q
 done:=λh B RW Y b=>by
  rw[tr]at Y;refine BU r Y.1 Y.2 i rfl (λv w q=>FU Y.2 i k ?_) λRU e=>b RU h.toks λp m j c=>e p m ⇑j c;rw[xX (bl _)];exact q
 self:=λa h B RW Y b=>vZ Y.1 b
def nC(RY:List Nat):List ab:=(RY.map λ(a:Nat)=>eS a)
def kh(U:Array (Int×ab))(RY:List Nat):List ab:=(RY.filterMap λa=>U[a]?.map (·.2))
theorem Dj{U:Array (Int×ab)}:∀{RY:List Nat},(∀o∈RY,o<U.size)->∀(a:Nat) (d:a<RY.length),∃f,U[RY[a]]?=Z f/\(kh U RY)[a]?=Z f.2
 |[],_,a,d=>by cases d
 |o::RY,b,a,d=>by
  have g:o<U.size:=b o (.head _);have c:U[o]?=Z U[o]:=i5 g;have h:kh U (o::RY)=U[o].2::kh U RY:=by rw[kh,x3 (b:=U[o].2) (by rw[c];rfl)];rfl
  rw[h];cases a with
  |zero=>exact⟨U[o],c,rfl⟩
  |succ a=>
   let⟨@f,t,A⟩:=Dj (λo d=>b o<|.tail _ d) a (yD d);exact⟨f,t,A⟩
theorem xc{U:Array (Int×ab)}:∀{RY:List Nat},(∀o∈RY,o<U.size)->(kh U RY).length=RY.length
 |[],_=>rfl
 |o::RY,a=>by
  have b:o<U.size:=a o (.head _);have c:U[o]?=Z U[o]:=i5 b;rw[kh,x3 (b:=U[o].2) (by rw[c];rfl),dA,dA];exact congrArg (·+1) (xc λo d=>a o<|.tail _ d)
theorem H3(v:O.handled=V)(ne:Se≠l)(w:S1≠l)(r:y.fits U.size=aa)(j:∀o∈RY,o<U.size):
  jx R3 H O l [l,Se,S1] [l] (kh U RY).length (λa s=>(kh U RY)[a]?=Z s) (λa d=>fW d l (.ref S1) a Se U.size Ss/\h8 d Se U Ss y/\∃m,d.get? S1=Z m/\m.data=.seq (nC RY).toArray S8) where
 sub:=λe x=>by
  have:e=l:=by simpa using x
  simp[this]
 frame:=λa d RU Y n=>⟨Y.1.go (n l ↥0),Y.2.1.go (n Se ↥0),let ⟨m,c,u⟩:=Y.2.2;⟨m,n S1 ↥0 m c,u⟩⟩
 item:=λa h B RW RT Y b=>by
  let@⟨k,i,⟨@m,c,u⟩⟩:=Y;rw[xc j]at RT;let⟨@f,t,A⟩:=Dj j a RT;refine M1 (f:=f) (c:=RY[a]) (SD:=0) k i r rfl c u ?_ t λRU g e=>b _ RU h.toks A ⟨g,i.go λm c=>e.extBut Se m ne c,m,e.extBut S1 m w c,u⟩ λp m q c=>e.extBut p m ⇑q c;rw[uv,nC,dT,dr RT];rfl
 done:=λh B RW Y b=>by
  let@⟨k,i,⟨@m,c,u⟩⟩:=Y;refine Oy v k i r rfl c u ?_ λRU e=>b RU h.toks λp m q c=>e p m ⇑q c;rw[uv,nC,dT,qL (by rw[xc j];exact bl _)];rfl
 self:=λa h B RW Y b=>vZ Y.1 b
end
section
variable{R3:bp}{H:a7}{O:bf}{RW:ab->ah->Prop}{h:ah}
def Px{u:ag}{B:Bool->ah->Prop}(a:h.TypeIs (.ref u) "set")(d:B ay h):wpAny (aM R3 H) O (bq.List.listLengthHint<|.ref u) B RW h:=by
 unfold bq.List.listLengthHint;refine aw (qx a PySem.F.slot_set_len.lookup ?_);generalize c:("set.__len__" : String)=f
 wp_delta
 rw[show splitId f=Z ("set","__len__") from by subst c;decide +kernel];subst c;refine aw (sk (T := "set") (b:=aa) a (by rw[p2];kernel_rfl) ?_);refine xK (λb=>absurd b ∅) (λ_=>?_);refine xK (λ_=>?_) (λb=>absurd (by decide +kernel) b);refine aw (lp a ?_);exact aR d
def Oc(b:RY.Perm (range U.size)):kh U RY=(RY.filterMap λa=>U[a]?).map (·.2)/\(RY.filterMap λa=>U[a]?).Perm U.toList:=by
 refine⟨?_,(b.filterMap _).trans (by rw[zF])⟩;rw[CM];rfl
end
def Mr{F:Sj->SX}:∀{b J:List SX},b.Perm J->∀SR:List Sj,SR.map F=J->∃a:List Sj,a.Perm SR/\a.map F=b:=by
 intro b J o;induction o with
 |nil=>intro SR c;cases List.map_eq_nil_iff.mp c;exact⟨[],.nil,rfl⟩
 |cons f o j=>
  intro SR c;let⟨g,@u,rfl,rfl,d⟩:=vU.mp c;let⟨@a,h,SU⟩:=j u d;exact⟨g::a,h.cons g,by rw[bY,SU]⟩
 |swap f D J=>
  intro SR c;let⟨g,@u,rfl,rfl,d⟩:=vU.mp c;let⟨e,@i,rfl,rfl,k⟩:=vU.mp d;exact⟨e::g::i,.swap g e i,by rw[bY,bY,k]⟩
 |trans h SU l m=>
  intro SR c;let⟨@n,p,q⟩:=m SR c;let⟨@r,s,t⟩:=l n q;exact⟨r,s.trans p,t⟩
theorem DJ{H:a7}{R4:List X->ag->Prop}:∀SR:List (List X×Int×ab),(∀C∈SR,su H R4 C)->∃Sq:List (List X×ag),SR.map (λC=>C.2.2)=Sq.map (λC=>ab.ref C.2)/\Sq.map (·.1)=SR.map (·.1)/\∀C∈Sq,R4 C.1 C.2
 |[],_=>⟨[],rfl,rfl,λ_ d=>(fI d).elim⟩
 |C::SR,d=>by
  let⟨@e,b,g,c⟩:=d C (.head _);let⟨@Sq,cw,cp,c_⟩:=DJ SR λC f=>d C (.tail _ f);refine⟨(C.1,e)::Sq,by rw[bY,bY,cw,b],by rw[bY,bY,cp],λD a=>?_⟩;rcases cc.mp a with rfl|a
  ·exact c
  ·exact c_ D a
section
variable{R3:bp}{H:a7}{R4:List X->ag->Prop}{O:bf}{RW:ab->ah->Prop}{h:ah}
def Ow{B:ab->ah->Prop}(r:O.handled=V)(M:fk H R4 h.heap Se (gW H) R)(v:R.length<=300)(d:∀(t:aV) (x:_) (l:ag) (bU:List ag) (T:List ab) (Sq:List (List X×ag)) (aZ:Nat->aV->Prop),(∀e m,h.heap.get? e=Z m->t.get? e=Z m)->h.heap.objs.size<=l->(∀e∈bU,e=Se\/h.heap.objs.size<=e)->
   jx R3 H O l bU [l] T.length (λa s=>T[a]?=Z s) aZ->aZ 0 t->T=Sq.map (λC=>ab.ref C.2)->(Sq.map (·.1)).Perm R->(∀C∈Sq,R4 C.1 C.2)->B (.ref l) {h with heap:=t,drawn:=x}):
  wpAny (aM R3 H) O (nA<|.ref Se) B RW h:=by
 let⟨m,U,Ss,@y,g,w,j,k⟩:=M;have ty:h.TypeIs (.ref Se) "set" := ⟨m,g,w.1⟩;have z:Se<h.heap.objs.size:=ck g;have P:U.size<=sizeLine:=by rw[k.num];exact dx v ∅
 have A:∀J:List (Int×ab),J.Perm U.toList->∃Sq:List (List X×ag),J.map (·.2)=Sq.map (λC=>ab.ref C.2)/\(Sq.map (·.1)).Perm R/\∀C∈Sq,R4 C.1 C.2:=λJ a5=>by
  let⟨@SR,Q,S,al⟩:=k.n5;let⟨@am,D,SU⟩:=Mr a5 SR Q;let⟨@Sq,cw,cp,c_⟩:=DJ (H:=H) (R4:=R4) am λC v=>al C (D.mem_iff.mp v);refine⟨Sq,?_,?_,c_⟩
  ·rw[<-SU,g8];exact cw
  ·rw[cp];exact (D.map _).trans S
 refine ys ty CW (i0 CW ty Hg ?C<|PySem.F.args_set_iter_1 _)
 case C=>
  unfold bq.«frozenset.__iter__» bq.Frozenset.slot0 bq.Frozenset.addrOf bq.Frozenset.sizeOf;refine aw (aw<|aR<|aR ?_);refine aw (aw<|rr g j k.fit<|aR ?_);refine aw ?_;unfold setDrawn;refine aw (j3 g j k.fit ?_);dsimp only;refine aw (sY<|aR ?_);have an:H.params.followText "set-order" = aa\/(!y.plain&&decide (U.size>1))=ay->
    wpAny (aM R3 H) O.in1 (do let Ss <-setEpoch Se;let u <-newFields "set_iterator" [eS 0,eS 0,.ref Se,eS U.size,eS Ss];ret u) (λap RV=>∃u,ap=PySem.Fin.done (.ret u)/\∃E q,RV.TypeIs u E/\xj (.type E) "__next__" = pure (Z q)/\B u RV) RW h:=by
   intro as;refine aw (Cm g j k.fit<|aw<|gp<|aR ⟨_,rfl,"set_iterator",_,⟨_,dh _ rfl,rfl⟩,p9.lookup,?_⟩);have cL:∀e m,h.heap.get? e=Z m->(h.heap.push {cls:=.type "set_iterator",dict:=V,data:=.fields [eS 0,eS 0,.ref Se,eS U.size,eS Ss].toArray}).get? e=Z m:=λe m c=>cg _ c;have G:fW (h.heap.push {cls:=.type "set_iterator",dict:=V,data:=.fields [eS 0,eS 0,.ref Se,eS U.size,eS Ss].toArray}) h.heap.objs.size (.int (0:Nat) 0) 0 Se U.size Ss:=⟨_,dh _ rfl,rfl,rfl⟩;have I:h8 (h.heap.push {cls:=.type "set_iterator",dict:=V,data:=.fields [eS 0,eS 0,.ref Se,eS U.size,eS Ss].toArray}) Se U Ss y:=⟨m,cL _ _ g,w,j⟩;have bU:∀e∈[h.heap.objs.size,Se],e=Se\/h.heap.objs.size<=e:=λe f=>by
    rcases cc.mp f with rfl|f
    ·exact .inr (bl _)
    ·exact .inl (cm.mp f)
   cases n:H.params.followText "set-order" with
   |true=>
    have p:=Qy (H.params.setOrder Se Ss) U;let⟨@Sq,cw,cp,c_⟩:=A _ p;exact d _ h.drawn _ _ _ _ _ cL (bl _) bU (Py r (cR z) k.fit n) ⟨G,I⟩ cw cp c_
   |false=>
    have a1:=as.resolve_left (by rw[n];exact c4);let⟨@Sq,cw,cp,c_⟩:=A _ (.refl _);exact d _ h.drawn _ _ _ _ _ cL (bl _) bU (QM r (cR z) k.fit n a1 (by rw[k.tab.led,gW,n];rfl) k.tab.rise) ⟨G,I⟩ cw cp c_
  show wpAny _ _ (if (!H.params.followText "set-order" && (!y.plain&&decide (U.size>1)))=aa then _ else _) _ _ _;cases L:(!H.params.followText "set-order" && (!y.plain&&decide (U.size>1))) with
  |false=>
   rw[aG c4];refine aw (m:=pure (eS 0)) (aR<|an ?_);cases n:H.params.followText "set-order" with
   |true=>exact .inl rfl
   |false=>rw[n]at L;exact .inr L
  |true=>
   rw[aD rfl];refine aw (Cx U.size (range U.size) h _ fQ λx RY p=>?_);have a2:∀o∈RY,o<U.size:=λo d=>en.mp (p.mem_iff.mp d);have bd:RY.length=U.size:=by rw[p.length_eq,fQ]
   refine aw (m:=newObj (.type "tuple") (.seq (nC RY).toArray)) (gp ?_ (show (nC RY).toArray.size<=sizeLine by rw[cO,nC,bt,bd];exact P));refine aw (Cm (cg _ g) j k.fit<|aw<|gp<|aR ⟨_,rfl,"set_iterator",_,⟨_,dh _ rfl,rfl⟩,p9.lookup,?_⟩);let@⟨be,bi⟩:=Oc p;let⟨@Sq,cw,cp,c_⟩:=A _ bi;have bm:({h with heap:=h.heap.push {cls:=.type "tuple",dict:=V,data:=.seq (nC RY).toArray},drawn:=x}:ah).heap.objs.size=h.heap.objs.size+1:=iF ..;refine d _ x _ [_,Se,h.heap.objs.size] (kh U RY) Sq _ (λe m c=>cg _<|cg _ c) ?_ ?_ (H3 (Ss:=Ss) (y:=y) (S8:=0) r ?_ ?_ k.fit a2) ⟨⟨_,dh _ rfl,rfl,rfl⟩,⟨m,cg _<|cg _ g,w,j⟩,⟨_,cg _<|dh _ rfl,rfl⟩⟩ (be.trans cw) cp c_
   ·exact lD (by rw[iF];exact k6 _)
   ·intro e f;rcases cc.mp f with rfl|f
    ·exact .inr (by rw[iF];exact si _)
    ·rcases cc.mp f with rfl|f
     ·exact .inl rfl
     ·exact .inr (by rw[cm.mp f];exact bl _)
   ·rw[iF];exact cR (Nat.lt_succ_of_lt z)
   ·rw[iF];exact cR (k6 _)
def MC{B:List ab->ah->Prop}(an:O.handled=V)(v:fk H R4 h.heap Se (gW H) R)(w:R.length<=300)(d:∀(RU:aV) (SD:Nat) (x:_) (Sq:List (List X×ag)),(∀e m,h.heap.get? e=Z m->RU.get? e=Z m)->(Sq.map (·.1)).Perm R->(∀C∈Sq,R4 C.1 C.2)->B (Sq.map λC=>ab.ref C.2) {h with heap:=RU,toks:=SD,drawn:=x}):
  wpAny (aM R3 H) O (collect<|.ref Se) B RW h:=by
 have y:Se<h.heap.objs.size:=let ⟨_,_,_,_,c,_⟩:=v;ck c
 unfold collect;refine aw (EV<|jw entry_proto_collect' ?_);rw[ke PySem.F.plain_proto_collect _];show wpAny _ O.in1 (qs [] >>= λJ=>again<|.builtin "list.__iadd__" ⟨[J,.ref Se],[]⟩) _ _ h;refine aw (gp ?_);refine aR ⟨jl CV _,jw entry_list_iadd' ?_⟩;rw[ke CV _];generalize z:h.heap.push {cls:=.type "list",dict:=V,data:=.seq ([]:List ab).toArray}=R5;have D:∀e m,h.heap.get? e=Z m->R5.get? e=Z m:=λe m c=>by rw[<-z];exact cg _ c
 have E:R5.get? h.heap.objs.size=Z {cls:=.type "list",dict:=V,data:=.seq #[]}:=by rw[<-z];exact dh _ rfl
 have G:h.heap.objs.size<R5.objs.size:=ck E;have I:fk H R4 R5 Se (gW H) R:=v.at λm c=>D Se m c;have ty:ah.TypeIs {h with heap:=R5} (.ref Se) "set" := let ⟨m,_,_,_,c,f,_⟩:=I;⟨m,c,f.1⟩
 show wpAny _ O.in1 (bq.List.listExtendWith (.ref h.heap.objs.size) (.ref Se)<|.ref h.heap.objs.size) _ _ _;unfold bq.List.listExtendWith;refine aw (lp (T := "set") ty ?_);have t:bq.List.listSameRef (.ref h.heap.objs.size) (.ref Se)=ay:=by simp[bq.List.listSameRef,kD y]
 have A:(ab.type "set" == ab.type "list")=ay:=by decide
 have ap:(ab.type "set" == ab.type "tuple")=ay:=by decide
 simp only[t,A,ap,CY,gE,fl];refine aw (Ow (h:={h with heap:=R5}) an I w λA x l bU T Sq aZ k as a1 W Y n Sr L=>?_);have a2:T.length<=sizeLine:=by rw[n,bt,<-bt (f:=(·.1)),Sr.length_eq];exact dx w ∅
 have P:h.heap.objs.size∉bU:=λi=>by
  rcases a1 _ i with c|c
  ·exact absurd c (kD y)
  ·exact absurd G (oI.mpr c)
 have o:A.get? h.heap.objs.size=Z {cls:=.type "list",dict:=V,data:=.seq #[]}:=k _ _ E;have bd:ah.TypeIs {h with heap:=A,drawn:=x} (.ref Se) "set" := let ⟨m,c,p⟩:=ty;⟨m,k _ _ c,p⟩
 have M:∀(b:aV) (p:Nat) (R1:mA->ah->Prop),aZ 0 b->(∀e m,e≠h.heap.objs.size->A.get? e=Z m->b.get? e=Z m)->b.get? h.heap.objs.size=Z {cls:=.type "list",dict:=V,data:=.seq #[] p}->
   (∀(RU:aV) (SD:Nat) (g:Nat),(∀e m,h.heap.get? e=Z m->RU.get? e=Z m)->RU.get? h.heap.objs.size=Z {cls:=.type "list",dict:=V,data:=.seq T.toArray g}->R1 (.ok<|.ret<|.ref h.heap.objs.size) {h with heap:=RU,toks:=SD,drawn:=x})->
   codeAny (aM R3 H) O (.builtin "list.extend.loop" ⟨[.ref h.heap.objs.size,.ref l,.ref h.heap.objs.size],[]⟩) R1 {h with heap:=b,drawn:=x}:=λb p R1 Y cL be bi=>
  codeAny_extend_loopS W.toS a2 h.heap.objs.size P (.ref h.heap.objs.size) T.length 0 _ #[] p rfl (gP _) Y be (ItemsOf.nil _) λRV q g i Q S=>by
   rw[show RV={h with heap:=RV.heap,toks:=RV.toks,drawn:=x} from by let⟨N,bm,bn,bs,N⟩:=i;cases RV;cases bm;cases bn;cases bs;rfl];have bv:q=T.toArray:=by
    apply El.mp;apply w2
    ·rw[c6];exact S.1
    ·intro a ca cd;have:=S.2 a q.toList[a] (by rw[<-eg];exact dr ca);have this:T[a]?=Z q.toList[a]:=this;rw[dr cd]at this;exact (Option.some.inj this).symm
   rw[bv]at Q;refine bi RV.heap RV.toks g (λe m c=>i.heap e m (λr=>?_)<|cL e m (cR<|ck c)<|k e m<|D e m c) Q;rcases cc.mp r with ce|r
   ·exact absurd (ck c) (by rw[ce];exact ij _)
   ·have U:=ck c;rw[cm.mp r]at U;have:h.heap.objs.size<=l:=dx (lD G) as;exact absurd U (oI.mpr this)
 refine aw (fU<|Px (h:={h with heap:=A,drawn:=x}) bd ?_);refine xK (λ_=>?_) (λ_=>aR ⟨jl CK _,M _ 0 _ Y (λe m N c=>c) o λRU SD g s u=>aw (yo u (aR (by rw[n];exact d RU SD x Sq s Sr L)))⟩);refine aw (jy ?_);refine aw ?_;show wpAny _ _ (tn h.heap.objs.size (·.push .none) >>= λ_=>tn h.heap.objs.size (·.pop)) _ _ _;refine aw (qh (s:={h with heap:=A,drawn:=x}) o rfl ?_);have al:=ml (a3.mapSeq (·.push ab.none)) o rfl;refine qh (hz:=by seq_fits) al rfl ?_;have ch:=ml (a3.mapSeq (·.pop)) al rfl;refine aR ⟨jl CK _,M _ _ _ ?_ (λe m j c=>?_) ch λRU SD g s u=>aw (yo u (aR (by rw[n];exact d RU SD x Sq s Sr L)))⟩
 ·refine W.frame 0 _ _ Y λe j m c=>?_;have am:e≠h.heap.objs.size:=λd=>P (d ▸ j);exact (hP _ _<|eH am).trans ((hP _ _<|eH am).trans c)
 ·exact (hP _ _<|eH j).trans ((hP _ _<|eH j).trans c)
end
end L2
namespace L2
open Spec PyProof.Rows PySem.W
section
variable{b:aJ}{G:List (ag×a3)}{w:aZ}{j:ax}{h:ah}
def aB.JL(l:aB b G w j h)(x:Drawn):aB b G w j {h with drawn:=x}:=⟨l.ok,l.os,l.bare,l.base,l.loc,l.cell,l.free,l.h1,l.pin,l.a0,l.len⟩
end
variable{R:List (List X)}
def iI.perm{E U:List X}(m:iI E)(o:U.Perm E):iI U:=
 ⟨⟨by rw[o.length_eq];exact m.ord.k2,λg b e c=>m.ord.j6 g (o.mem_iff.mp b) e<|o.mem_iff.mp c,o.nodup_iff.mpr m.ord.aj⟩,m.fst.imp (λd x a=>d x<|o.mem_iff.mp a) λd x a=>d x<|o.mem_iff.mp a⟩
theorem Br{j:ax}:∀{Sq:List (List X×ag)},(∀C∈Sq,cq j (.tup C.1)<|.ref C.2)->bx j ((Sq.map (·.1)).map .tup) (Sq.map λC=>ao.ref C.2)
 |[],_=>rfl
 |C::Sq,d=>⟨_,_,rfl,d C<|.head _,Br λD a=>d D<|.tail _ a⟩
theorem vQ:∀Sq:List (List X×ag),bN (Sq.map λC=>ao.ref C.2) (Sq.map λC=>ab.ref C.2)
 |[]=>.nil
 |C::Sq=>.cons rfl (vQ Sq)
section
variable{b:aJ}{G:List (ag×a3)}{w:aZ}{j:ax}{h:ah}{R4:List X->ag->Prop}
def L9(al:b.calm=aa)(ci:b.A.units+20<bD){Se:ag}{R:List (List X)}{B:cx}(l:aB b G w j h)(am:fk b.w R4 h.heap Se (gW b.w) R)(an:∀n e,R4 n e->cq j (.tup n) (.ref e))(m:iI (R.map .tup))(u:R.length<=300)(q:∀J SR,j J=V->bx j (fR bh<|R.map .tup) SR->B (.ref J) (upd j J<|.lst SR)):
  wpAny (aM b.prog b.w) b.A (call (.builtin "sorted") [.ref Se]) (e_ b G w B) b.cH h:=by
 refine yQ w_ vf yA (yV _) ?C
 case C=>
  unfold bq.«sorted»;refine aw (m:=y2 "sorted" 1 1 _) (aR<|aw<|MC (O:=b.A.in1) (l.ok.hd al) am u λRU SD x Sq ap Sr as=>?_);have v:aB b G w j {h with heap:=RU,toks:=SD,drawn:=x}:=(l.JL x).kept (Sw:=SD) ap;have RT:bx j ((Sq.map (·.1)).map .tup) (Sq.map λC=>ao.ref C.2):=Br λC u=>an _ _ (as C u);have p:dg RU ((Sq.map (·.1)).map .tup) (Sq.map λC=>ab.ref C.2):=RT.eO v.a0 (vQ Sq);have y:((Sq.map (·.1)).map X.tup).Perm (R.map .tup):=Sr.map _;have SE:=m.perm y;have a1:Sq.length<=300:=by rw[<-bt (f:=(·.1)),Sr.length_eq];exact u
  generalize cl:(Sq.map (·.1)).map X.tup=E at RT p y SE;generalize a2:Sq.map (λC=>ao.ref C.2)=Sh at RT;have z:bN Sh (Sq.map λC=>ab.ref C.2):=a2 ▸ vQ Sq;generalize bd:Sq.map (λC=>ab.ref C.2)=Sa at p z ⊢;have P:Sa.length=E.length:=p.length.symm;have be:Sa.length<=300:=by rw[<-bd,bt];exact a1
  show wpAny _ _ (qs Sa >>= _) _ _ _;refine aw (uw ?_ (dx be ∅));have Q:(RU.push<|e8 "list" Sa.toArray 0).get? RU.objs.size=Z (e8 "list" Sa.toArray 0):=dh _ rfl;refine aw (fU<|i0 yw ⟨_,Q,rfl⟩ xo ?D<|yj _)
  case D=>
   have L:∀g:aV,(∀e aS,e≠RU.objs.size->(RU.push<|e8 "list" Sa.toArray 0).get? e=Z aS->g.get? e=Z aS)->∀e aS,RU.get? e=Z aS->g.get? e=Z aS:=λg r e aS c=>r e aS (cR<|ck c) (cg _ c);refine yC (h:={h with heap:=RU.push (e8 "list" Sa.toArray 0),toks:=SD,drawn:=x}) (mZ E) (oA<|decide (∀x∈E,ir x=aa)) Q (λA g r B bi=>vb (d:=g) (h:={h with heap:=g,toks:=SD,drawn:=x}) SE.w A (p.oh<|L g r) _ _ B bi) (λg r=>?_) (.inl ⋯) ⋯ λo A k S bm ⟨bn,bs⟩=>⟨_,rfl,aR ⟨_,rfl,?_⟩⟩
   ·refine x8 (h:={h with heap:=g,toks:=SD,drawn:=x}) SE.w.ord (p.oh<|L g r) SE.w.tup (λbv=>fK bv) (by show b.A.units+1+1+9<bD;lia)
   ·have ca:j RU.objs.size=V:=v.a0.fresh (bl _);rw[P]at k S;have cd:(o.toList.map λa=>E.getD a .aX)=fR bh (R.map .tup):=vE m.w.ord ((rT k).trans y) (y1 SE.w.ord k S);have T:=RT.pick (o:=o.toList) λn M=>en.mp (k.mem_iff.mp M);rw[cd]at T;refine⟨.ref RU.objs.size,upd j RU.objs.size<|.lst<|o.toList.map λa=>Sh.getD a .aX,?_,rfl,q _ _ ca T⟩;refine v.laid (Sw:=SD) (λe I c=>L A bm e I c) (bl _) ⟨?_,_,bn,?_,bs⟩
    ·rw[bt,c6,k.size];exact dx (by lia:E.length<=300) ∅
    ·refine rM ↥0 λa s I t A=>?_;rw[dT]at t A;cases N:o.toList[a]? with
     |none=>rw[N]at t;cases t
     |some n=>
      rw[N]at t A;cases t;cases A;have M:n<E.length:=en.mp (k.mem_iff.mp<|e0 N);have U:n<Sh.length:=by rw[z.length,P];exact M
      let⟨@I,ce,ch⟩:=z.get (a:=n) (f:=Sh[n]) (dr U);show b2 (Sh.getD n .aX) (Sa.getD n .none);rw[ct,dr U,ct,ce];exact ch
def hk(R:List (List X)):List (List X):=(R.foldl hj [])
theorem wk(R:List (List X)):∀a,a<=R.length->ik (λa=>R.getD a []) a=(R.take a).foldl hj []
 |0,_=>by rw[vK];rfl
 |a+1,d=>by
  rw[CU (show a<R.length from d),sJ,<-wk R a (Nat.le_of_succ_le d)];show hj _ (R.getD a [])=hj _ R[a];rw[ct,dr<|show a<R.length from d];rfl
def N3(J:List (List X)):∀a:List (List X),a.length<=(J.foldl hj a).length:=by
 induction J with
 |nil=>intro a;exact bl _
 |cons n u b=>
  intro a;refine dx ?_ (b _);unfold hj;split
  ·exact bl _
  ·rw[d4];exact uU _ _
def Hq{a:Nat}(d:a<=R.length):(ik (λa=>R.getD a []) a).length<=(hk R).length:=by
 rw[wk R a d];have c:hk R=(R.drop a).foldl hj ((R.take a).foldl hj []):=by
  rw[hk,<-sJ,eW]
 rw[c];exact N3 _ _
def PJ(R:List (List X)):ik (λa=>R.getD a []) R.length=hk R:=by
 rw[wk R _ (bl _),q4];rfl
theorem bx.at{j:ax}:∀{E:List X}{T:List ao}{a:Nat}{s:ao},bx j E T->T[a]?=Z s->∃x,E[a]?=Z x/\cq j x s
 |[],T,a,s,d,c=>by rw[show T=[] from d]at c;simp at c
 |x::E,T,0,s,d,c=>by
  let⟨I,@u,rfl,t,A⟩:=d;cases c;exact⟨x,rfl,t⟩
 |x::E,T,a+1,s,d,c=>by
  let⟨I,@u,rfl,t,A⟩:=d;let⟨@b,e,f⟩:=bx.at (a:=a) A ⇑c;exact⟨b,by simpa using e,f⟩
end
def qp:List X->Option (List<|List X)
 |[]=>Z []
 |.tup g::u=>(qp u).map (g::·)
 |_=>V
theorem Gn:∀{f:List X}{R:List (List X)},qp f=Z R->f=R.map .tup
 |[],R,d=>by cases d;rfl
 |.tup g::u,R,d=>by
  let⟨@n,t,rfl⟩:=cB.mp d;rw[Gn t];rfl
 |.aX::_,_,d=>by cases d
 |.aN _::_,_,d=>by cases d
 |.int _::_,_,d=>by cases d
 |.str _::_,_,d=>by cases d
 |.fn _::_,_,d=>by cases d
 |.aT _::_,_,d=>by cases d
 |.fd _::_,_,d=>by cases d
def oi(R:List (List X)):Bool:=(R.all (X.keys 7)&&decide ((hk R).length<300))
def Nd:oi R=aa↔(∀n∈R,X.keys 7 n=aa)/\(hk R).length<300:=by
 unfold oi;rw[cC,j_,fi]
end L2
namespace L2
open Spec PyProof.Rows
end L2
namespace G
open L2
end G
namespace L2
open Spec PyProof.Rows
end L2
namespace L2
open Spec PyProof.Rows PySem.W
variable{k:Nat}{m:a3}{B:ab->ah->Prop}{R:List (List X)}{Sm:Array ab}{J:ag}
def Jv:isSubtype (.type "list") (.type "set")=pure ay:=by rw[p2];kernel_rfl
def Mp:isSubtype (.type "list") (.type "frozenset")=pure ay:=by rw[p2];kernel_rfl
section
variable{R3:bp}{H:a7}{R4:List X->ag->Prop}{O:bf}{RW:ab->ah->Prop}{h:ah}
def GK{Se:ag}{b:Bool}(t:O.handled=V)(l:h.heap.get? J=Z m)(n:m.cls=.type "list")(o:m.data=.seq Sm k)(L:O.units+28<bD)(RT:∀a s,Sm[a]?=Z s->∃e,s=.ref e/\R4 (R.getD a []) e)(v:∀q e,R4 q e->(dU R3 H).is h.heap q e)(g:∀a,a<Sm.size->(ik (λa=>R.getD a []) a).length+1<=300)(w:J≠Se)(j:h.heap.get? Se=Z (kP b))(x:fk H R4 h.heap Se b [])(d:∀RU SD,fk H R4 RU Se b (ik (λa=>R.getD a []) Sm.size)->(∀e m,e≠Se->h.heap.get? e=Z m->RU.get? e=Z m)->B .none {h with heap:=RU,toks:=SD}):
  wpAny (aM R3 H) O (bq.«set.__init__» ⟨[.ref Se,.ref J],[]⟩) (λy RV=>∃u,y=.done (.ret u)/\B u RV) RW h:=by
 let⟨M,N,P,Q⟩:=m;simp only at n o;subst n;subst o;have S:=Jv;have T:=Mp;have U:(ab.type "list" == ab.type "dict")=ay:=by decide
 unfold kP at j;have p:h.heap.IsList J Sm:=⟨_,l,rfl,k,rfl⟩;unfold bq.«set.__init__» noKeywords bq.Frozenset.updateFrom;generalize z:nA=lj
 wp_walk
 subst z;refine yB p ?_;refine aw (EV ?_);have A:J<h.heap.objs.size:=ck l;have C:Se<h.heap.objs.size:=ck j;have D:O.in1.handled=V:=by simp[t]
 refine JI (b:=b) (R4:=R4) (k:=h.heap) (show O.units+25<bD by lia) (jx.list D _ J (cR A) Sm) ?_ (λa=>R.getD a []) RT v ?_ ?_ g (Sm.size-0) 0 _ ⋯ (gP _) ?_ ⟨⟨_,dh _ rfl,rfl,rfl⟩,?_⟩ ?_ λRU SD E F=>?_
 ·simp only[cc,fI,hz,not_or];exact⟨cR C,λc=>w c.symm⟩
 ·intro e m c;rw[cm];exact cR (ck c)
 ·intro I Sm i f r;rw[j]at f;cases f;cases r
 ·intro e m Sm i f r am;exact cg _ f
 ·let⟨m,G,u⟩:=p;exact⟨m,cg _ G,u⟩
 ·exact x.at λm c=>cg _ c
 ·show wpAny _ _ _ _ _ _;refine aR ?_;show wpAny _ _ (ret ab.none) _ _ _;refine aR ⟨_,rfl,d RU SD F λe m g c=>E e m g ?_<|cg _ c⟩;rw[cm];exact cR (ck c)
def Qq(w:O.handled=V)(l:h.heap.get? J=Z m)(x:m.cls=.type "list")(y:m.data=.seq Sm k)(M:O.units+30<bD)(RT:∀a s,Sm[a]?=Z s->∃e,s=.ref e/\R4 (R.getD a []) e)(n:∀q e,R4 q e->(dU R3 H).is h.heap q e)(z:∀a,a<Sm.size->(ik (λa=>R.getD a []) a).length+1<=300)(d:∀RU SD,fk H R4 RU h.heap.objs.size (gW H) (ik (λa=>R.getD a []) Sm.size)->(∀e m,h.heap.get? e=Z m->RU.get? e=Z m)->B (.ref h.heap.objs.size) {h with heap:=RU,toks:=SD}):
  wpAny (aM R3 H) O (call (.type "set") [.ref J]) B RW h:=by
 let⟨p,Tv,P⟩:=md.mro;have Q:=md.made;have S:=md.sub;refine xS (Bm ?_);show wpAny _ _ (callAny (.type "set") _) _ _ _;refine aR ⟨hE.quiet_builtin _ (by decide +kernel),jw F.entry_type_call ?_⟩;rw[bf.under_plain (weight_type_call_type "set" [.ref J] []) rfl];have t:=md.notType;have A:=md.canCreate;have T:=PySem.F.typeCall_set_1 (.ref J);repeat (any_goals (first|assumption|wp_step))
 refine pn (GX (.ref J) (RW:=RW) (a:=λo r=>o=.ref h.heap.objs.size/\r={h with heap:=h.heap.push (kP<|gW H)}) ⟨rfl,rfl⟩) λu r f=>?_;cases u with
 |error c=>exact f
 |ok aT=>
  cases aT with
  |ret o=>
   let⟨rfl,rfl⟩:=f;have v:(h.heap.push<|kP<|gW H).get? h.heap.objs.size=Z (kP<|gW H):=dh _ rfl;have D:ah.TypeIs {h with heap:=h.heap.push (kP<|gW H)} (.ref h.heap.objs.size) "set" := ⟨_,v,rfl⟩;have al:=md.init.lookup;have am:=md.init.bind (.ref h.heap.objs.size);repeat (any_goals (first|assumption|wp_step))
   refine pn (codeAny_call_builtin (R:=wants (λu b=>u=.none/\∃RU SD,b={h with heap:=RU,toks:=SD}/\
     fk H R4 RU h.heap.objs.size (gW H) (ik (λa=>R.getD a []) Sm.size)/\(∀e m,h.heap.get? e=Z m->RU.get? e=Z m)) RW) md.init.plain PySem.F.entry_set_init<|check_set_init_1 D ?_) λE b g=>?_
   ·refine gT (GK (h:={h with heap:=h.heap.push (kP<|gW H)}) (by simp[w]) (cg _ l) x y (by show O.in1.in1.units+28<bD;show O.units+1+1+28<bD;omega) RT (λq e C=>⟨(n q e C).1,(n q e C).2.keep λe m W W c W W=>cg _ c⟩) z (cR<|ck l) v (fk.fresh _) (B:=λu b=>u=.none/\∃RU SD,b={h with heap:=RU,toks:=SD}/\
     fk H R4 RU h.heap.objs.size (gW H) (ik (λa=>R.getD a []) Sm.size)/\(∀e m,h.heap.get? e=Z m->RU.get? e=Z m)) λRU SD i G=>⟨rfl,RU,SD,rfl,i,λe m c=>G e m (cR<|ck c)<|cg _ c⟩) (λan RV j=>?_) λ_ W c=>c;let⟨u,rfl,j⟩:=j;exact j
   ·cases E with
    |error c=>exact g
    |ok I=>
     cases I with
     |ret u=>
      let⟨rfl,⟨RU,SD,rfl,i,L⟩⟩:=g;repeat (any_goals (first|assumption|wp_step))
      exact d _ _ i L
     |_=>exact g.elim
  |_=>exact f.elim
end
section
variable{b:aJ}{G:List (ag×a3)}{w:aZ}{j:ax}{h:ah}{R4:List X->ag->Prop}
def NI(D:b.calm=aa)(E:b.A.units+30<bD){J:ag}{R:List (List X)}{Sh:List ao}{B:ab->ah->Prop}(l:aB b G w j h)(F:j J=Z (.lst Sh))(RT:bx j (R.map .tup) Sh)(L:∀n∈R,X.keys 7 n=aa)(T:(hk R).length<300)(d:∀RU SD Se,aB b G w j {h with heap:=RU,toks:=SD}->fk b.w (λn e=>X.keys 7 n=aa/\cq j (.tup n) (.ref e)) RU Se (gW b.w) (hk R)->B (.ref Se) {h with heap:=RU,toks:=SD}):
  wpAny (aM b.prog b.w) b.A (call (.type "set") [.ref J]) B b.cH h:=by
 let⟨Sa,c,a5,W⟩:=l.list (dE.of F);let⟨m,M,N,v,P⟩:=a5.isList;have Q:Sa.length=R.length:=by rw[<-c.length,<-RT.length,bt]
 have k:Sa.toArray.size=R.length:=by rw[cO,Q]
 refine Qq (R4:=λn e=>X.keys 7 n=aa/\cq j (.tup n) (.ref e)) (Sm:=Sa.toArray) (R:=R) (l.ok.hd D) M N P E (λa s g=>?_) (λq e C=>⟨C.1,C.2.eO l.a0 rfl⟩) (λa RT=>?_) λRU SD o cL=>?_
 ·rw[uv]at g;have p:a<Sh.length:=by rw[c.length];exact (e4.mp g).1
  let⟨I,r,t⟩:=c.get (a:=a) (f:=Sh[a]) (dr p);rw[g]at r;cases r;let⟨x,u,i⟩:=RT.at (a:=a) (s:=Sh[a]) (dr p);rw[dT]at u;let⟨n,y,rfl⟩:=cB.mp u;let⟨e,z,S,U,al⟩:=id i;rw[S]at t i;refine⟨e,t,?_⟩;rw[ct,y];exact⟨L n<|e0 y,i⟩
 ·rw[k]at RT;have:=Hq (R:=R) (lD RT);lia
 ·rw[k,PJ]at o;exact d RU SD _ (l.kept (Sw:=SD) cL) o
end
end L2
namespace L2
open Spec PySem.Calls PyProof.Rows
end L2
namespace L2
open Spec PyProof.Rows
section
open PySem.SeqAt
open PySem.AutoSeq1 (wpAny_loadPart')
open PySem.MeetsSeq PySem.MeetsSeq2 PySem.MeetsSeq3
end
end L2
namespace L2
end L2
namespace L2
open Spec PyProof.Rows
variable{Tp SU Sd o:Pos}{d:hq}{RY:List au}{n:Nat}{h:ah}{w:aZ}{L:aA bz}{SO:List Nat}{m Sz:bj}{P:List (List X×ao)}{aS:a3}{g:ag}{j:ax}
def vS(g:ag)(aS:a3)(R9:List (List X×ao)):eR:=(
 ⟨λa j=>j g=Z (.cM aS<|.aO R9)/\a<R9.length,
  λa j s S=>S=j/\∃e o,s=.ref e/\R9[a]?=Z o/\gC j o.1 e,
  λa j=>j g=Z (.cM aS<|.aO R9)/\R9.length<=a⟩)
theorem KH{R4:bp}{H:a7}{Q:Φ}(g R0:ag)(aS:a3)(R9:List (List X×ao))(E:Array x2)(Ss:Nat)(y:aS.data=.dict E Ss):
  ra R4 H Q Sz (vS g aS R9) [R0] R0 (λa d=>d.IsKeyIter R0 g a R9.length Ss) where
 mem:=by simp
 obj:=λa d Y p A=>by
  cases cm.mp A;let⟨@m,c,p,x⟩:=Y;exact⟨m,c,λs C=>by rw[x]at C;cases C⟩
 keep:=λa d RU Y n=>let ⟨m,c,u⟩:=Y;⟨m,n R0 ↥0 m c,u⟩
 item:=by
  intro b F I J A a G h w j RW l D Y L;subst F I J;let@⟨N,RT⟩:=L;let@⟨i,C,hd,⟨@z,rel,⟨SE,a2,@bd,k,P,r,R,be⟩⟩⟩:=(show h.heap.get? g=Z aS/\d9 b.prog b.w j h.heap g (.aO R9) from l.a0 g _ N);rw[i]at k;cases k;rw[y]at r;cases r;let@⟨S,T,bi,U,al,am⟩:=D R0 ↥0;have an:=dC.length rel;have ap:E.toList.map (·.key)=z.map λf=>ab.ref f.2.1:=by rw[R,g8];rfl
  have as:gQ h.heap g (z.map λf=>ab.ref f.2.1) Ss:=⟨_,_,i,P,y,ap⟩;let⟨o,@q,bm,SU,ca,bn,cd⟩:=wA rel a RT;have t:(z.map λf=>ab.ref f.2.1).length=R9.length:=by rw[bt,an]
  refine FN (by rw[t];exact Y) as (s:=.ref q.2.1) (by rw[dT,SU];rfl) λRU a1 cJ=>?_;have bs:aB b G w j {h with heap:=RU}:=l.turned (Sw:=h.toks) (λe m v c=>cJ.extBut e m v c) S T U al am;rw[t]at a1;let⟨@m,c,p,x⟩:=id a1;exact⟨_,rfl,tX (h:={h with heap:=RU}) c p x ∅ ⟨.ref q.2.1,j,bs,rfl,⟨rfl,_,o,rfl,bm,bn⟩,a1,λe v=>(D e v).1⟩⟩
 done:=by
  intro b F I J A a G h w j RW l D Y L;subst F I J;let@⟨N,RT⟩:=L;let@⟨i,C,hd,⟨@z,rel,⟨SE,a2,@bd,k,P,r,R,be⟩⟩⟩:=(show h.heap.get? g=Z aS/\d9 b.prog b.w j h.heap g (.aO R9) from l.a0 g _ N);rw[i]at k;cases k;rw[y]at r;cases r;let@⟨S,T,bi,U,al,am⟩:=D R0 ↥0;have an:=dC.length rel;have ap:E.toList.map (·.key)=z.map λf=>ab.ref f.2.1:=by rw[R,g8];rfl
  have as:gQ h.heap g (z.map λf=>ab.ref f.2.1) Ss:=⟨_,_,i,P,y,ap⟩;have t:(z.map λf=>ab.ref f.2.1).length=R9.length:=by rw[bt,an]
  exact Co (l.ok.hd A) (by rw[t];exact Y) as (by rw[t];exact RT) λRU bv=>⟨rfl,l.turned (Sw:=h.toks) (λe m v c=>bv e m v c) S T U al am⟩
 self:=λO a h B RW Y d=>Bz Y d
section
variable{b:aJ}
theorem Pq{R9:List (List X×X)}(d:j g=Z (.cM aS<|.aO P))(b:d_ j R9 P):lQ (vS g aS P) j [] (R9.map λk=>.tup k.1) where
 go:=λS y n a x c=>by
  rw[dT]at c;let⟨@⟨u,v⟩,f,rfl⟩:=cB.mp c;have RT:a<R9.length:=(e4.mp f).1;have l:a<P.length:=by rw[<-b.length];exact RT
  refine⟨⟨y.cM _ _ _ d,l⟩,λC w ⟨m,e,o,p,r,s⟩=>?_⟩;subst p m;let⟨z,@q,h,i,t,A⟩:=wA b a RT;rw[f]at h;cases h;rw[r]at i;cases i;cases t;exact⟨cI.refl _,s.2⟩
 stop:=λS y n=>⟨y.cM _ _ _ d,by rw[bt,b.length];exact bl _⟩
def MX(k:bZ):jh:=(λw j R1=>k w j λf R5=>∃g aS R9,f=.ref g/\R5 g=Z (.cM aS<|.aO R9)/\R1 (vS g aS R9) R5)
def N2{k:bZ}(t:bH b m k):lj b Sz m (MX k):=by
 intro G h w j R1 l d;refine bO (t G h w j _ l d) λI a u=>?_;let⟨f,R5,i,v,⟨g,aS,R9,SQ,x,q⟩⟩:=u;subst SQ;obtain rfl:I=ab.ref g:=v;let⟨n,C,y,z,A,SE,o,Ss,r,B,s,D,O⟩:=(show a.heap.get? g=Z aS/\d9 b.prog b.w R5 a.heap g (.aO R9) from i.a0 g _ x);rw[n]at r;cases r;have E:=dC.length A;have F:o.toList.map (·.key)=z.map λf=>ab.ref f.2.1:=by rw[D,g8];rfl
 have J:(z.map λf=>ab.ref f.2.1).length=R9.length:=by rw[bt,E]
 have L:gQ a.heap g (z.map λf=>ab.ref f.2.1) Ss:=⟨_,_,n,B,s,F⟩;refine Bf y L ?_;rw[J];refine⟨_,_,_,_,_,rfl,i.kept (Sw:=a.toks)<|λe m c=>cg _ c,KH g _ aS R9 o Ss s,⟨_,dh _ rfl,rfl,rfl⟩,λp N=>?_,q⟩;cases cm.mp N;exact i.tO (bl _) (i.a0.fresh<|bl _)
@[simp] def wo(L:aA bz):hq:=λk=>(L k).bind λo=>match du o.2 o.1 with
 |some (.eV R9)=>Z ((R9.map λa=>.tup a.1,V),o.2)
 |_=>V
def Ng:∀k u Sl,wo L k=Z (u,Sl)->jk SO u.2:=by
 intro k u Sl d;let⟨⟨M,R_⟩,t,A⟩:=bu.mp d;dsimp only at A;split at A
 ·cases A;trivial
 ·cases A
def PV(d:dm b m L):jP b Sz m (wo L):=by
 refine yu (N2 d) λw j v h=>?_;let⟨k,N,u,Sl,Y,aj,i,q⟩:=h;let⟨⟨f,R_⟩,t,A⟩:=bu.mp i;refine⟨k,N,f,R_,Y,aj,t,λs R5 Sg R1 a l n=>?_⟩;dsimp only at A;split at A
 ·rename_i R9 o;cases A;let⟨W,g,P,aS,rfl,c,p,W⟩:=l.read a o;exact⟨g,aS,P,rfl,c,q _ _ Sg [] a (Pq c p) trivial (λe r=>nomatch r) (n.less (ae:=R1) (by rw[bR]))⟩
 ·cases A
end
section
variable{b:aJ}{G:List (ag×a3)}
def aB.Il{Tq:aZ}{R5:ax}{n:ah}(r:aB b G Tq R5 n)(t:R5 g=Z (.aO P))(l:aB b G w j h)(d:j g=Z (.cM aS<|.aO P)):aB b G w (upd j g<|.aO P) h:=by
 have ne:∀{e:ag}{m:Option eZ},j e=m->(∀o I,m≠Z (.cM o I))->e≠g:=λc v C=>by
  rw[C,d]at c;exact v _ _ c.symm
 have a:∀e z,j e=Z (.tup z)->upd j g (.aO P) e=Z (.tup z):=λe z c=>by
  rw[b9 (ne c λ_ W C=>by cases C)];exact c
 refine⟨l.ok,l.os,l.bare,⟨l.base.keep,l.base.slot,λe m c v f=>?_,l.base.iR,l.base.there,λe z c=>a e z<|l.base.ig e z c,λe m I c=>?_,λe RY c=>?_⟩,l.loc,l.cell,?_,λf p c=>?_,λo s=>?_,λe m c=>?_,l.len⟩
 ·have C:=l.base.free e m c v f;rw[b9 (ne C λ_ W q=>by cases q)];exact C
 ·have i:=r.base.h_ e m I c;have C:=l.base.h_ e m I c;rw[b9 λq=>by rw[q,t]at i;cases i];exact C
 ·let⟨u,C⟩:=l.base.kc e RY c;refine⟨u,?_⟩;rw[b9 (ne C λ_ W q=>by cases q)];exact C
 ·have C:=l.free;rw[b9 (ne C λ_ W q=>by cases q)];exact C
 ·have C:=l.h1 f p c;rw[b9 (ne C λ_ W q=>by cases q)];exact C
 ·let⟨x,SU,y⟩:=l.pin o s;exact⟨x,by rw[b9 (ne SU λ_ W q=>by cases q)];exact SU,y⟩
 ·by_cases k:e=g
  ·subst k;rw[dV]at c;cases c;let⟨W,f⟩:=(show d9 b.prog b.w j h.heap e (.cM aS<|.aO P) from l.a0 e _ d);exact f.gw (λ_ W W q=>q) (λp q=>by rw[b9 (ne q λ_ W C=>by cases C)];exact q) a
  ·rw[b9 k]at c;exact (l.a0 e m c).gw (λ_ W W q=>q) (λp q=>by rw[b9 (ne q λ_ W C=>by cases C)];exact q) a
def aB.Ja(l:aB b G w j h)(a:j g=Z (.aO P)):∃aS,aB b G w (upd j g<|.cM aS<|.aO P) h:=by
 let⟨C,f,⟨z,i,⟨aS,k,Ss,d,m,n,o,p⟩⟩⟩:=(show d9 b.prog b.w j h.heap g (.aO P) from l.a0 g _ a);refine⟨aS,l.write (RU:=h.heap) (Sw:=h.toks) (c:=g) (by rw[a];trivial) (.inl rfl) (λe I W c=>c) ⟨_,d⟩ ⟨d,C,f,z,cY.keeps i λe Sh c=>?_,aS,k,Ss,d,m,n,o,p⟩⟩;have:e≠g:=λC=>by subst C;rw[a]at c;cases c
 rw[b9 this];exact c
def ME{k:i_}{F:ag}{fd:fY}{S6:je}{RW:fh}{f:au}{c:bj}{U:List bj}{y:ew}(N:fM b.prog b.w b.K b.aE b.base k n F fd RY S6)(e:dd n b.A)(i:ep b f)(m:b.aE f=Z (.ref F))(p:Δ b.K (.ref F)=aa)(r:fG b.K fd RY [])(v:nt k b RW)(x:gS b (c::U) y)(z:(f==("__debug__" : au))=ay:=by decide)(C:bC (c::U) b.env=(ay,bK c b.env)::bC U b.env:=by rfl)(D:(ez Sd<|bC U b.env).any (·.1)=ay:=by rfl):
  bH b (.Call (.Name f o) (c::U) [] Sd) λw j B=>y w j λT R5=>∃g P,R5 g=Z (.aO P)/\∀aS,S6 T (upd R5 g<|.cM aS<|.aO P) (λs Sf=>Sf g=Z (.cM aS<|.aO P)/\B s (upd Sf g<|.aO P)) RW:=by
 intro G h w j B l d;refine pz (rV l i m ?_ z);refine vg (h₀:=b.base) l.ok.mod.qu p (bO (x Sd G h w j _ l d) λSk am ⟨T,R5,a,u,g,P,t,q⟩=>⟨a.hr,?_⟩) C D;let⟨aS,E⟩:=a.Ja t;have q:=q aS;rw[<-bR T]at q;refine bO (yi N e r .nil v E u q) λs an J=>?_;let⟨I,ap,L,M,R,S⟩:=J;exact⟨I,_,a.Il t L R,M,S⟩
end
section
variable{b:aJ}
@[simp] def rn(R2:cX)(L:aA bz)(ae:ag)(a r:Nat)(F:au):aA ai:=λk=>(L k).bind λo=>(du o.2 o.1).bind λSx=>match Sx,pv ae a r F o.2 with
 |.im Sx,Z (.aO R9)=>match R2 [.im Sx,.eV R9] with
   |some (.lst J,[_,_])=>if X.keys 7 J=aa then Z (.lst J,o.2) else V
   |_=>V
 |_,_=>V
def Fi{i:Nat}{R2:cX}{a2 ae:ag}{Y:bI}{a:Nat}(r:Nat){f F:au}{o Sd Tp:Pos}{c m:bj}{L:aA bz}(bd:fJ b.prog b.w b.K b.aE b.base n f Y a2 RY 2 R2)(be:dd i b.A)(bi:ep b f)(bm:dm b c L)(p:gx b.K ae)(v:eE b.K ae F)(bn:bH b m (hF a))(d:kV m F b.env (bK m b.env)=bK m b.env:=by rfl)(bs:n<=i:=by decide)(bv:(f==("__debug__" : au))=ay:=by decide)(T:bC [c,.Attribute m F Tp] b.env=(ay,bK c b.env)::bC [.Attribute m F Tp] b.env:=by rfl)(ca:bC [.Attribute m F Tp] b.env=(ay,bK (.Attribute m F Tp) b.env)::bC [] b.env:=by rfl)(cd:(ez Sd<|bC [.Attribute m F Tp] b.env).any (·.1)=ay:=by rfl):cF b (.Call (.Name f o) [c,.Attribute m F Tp] [] Sd) (rn R2 L ae a r F):=by
 let⟨W,ce,e,l,N⟩:=bd;refine eB (ME N (be.mono bs) bi l ce.cL e tq (uA bm (uA (pW bn d) yG ca) T) bv T cd) λw j B ch=>?_;let⟨k,N,u,Sl,Y,aj,ci,q⟩:=ch;let⟨⟨cl,R_⟩,t,A⟩:=bu.mp ci;let⟨Sx,co,x⟩:=bu.mp A;dsimp only at x;split at x
 ·rename_i Sx R9 cr;split at x
  ·rename_i J cs SE db;split at x
   ·rename_i ds;cases x;refine⟨k,N,cl,_,Y,aj,t,λdL R5 Sg go G cw M=>?_⟩;let⟨hN,rfl⟩:=JN G cw co;rw[bR]at M;let⟨R,E,eq,ev,ex⟩:=xE cr;let⟨g,SI,P,s,R1,fd,fn,fr,f0,gt,f1,W⟩:=qQ G M.aj eq ev ex;let⟨h,Ti,rfl,y,f2,rfl⟩:=f0;have f4:h∈Sg:=f1 h (.head _);refine⟨_,fd,g,ae,SI,P,_,rfl,fn,p,v,fr,h,Ti,y,λaS=>?_⟩;have U:d8 R5 (upd R5 h<|.cM aS<|.aO Ti):=d8.of (λe z c=>by
     rw[b9 λC=>by subst C;rw[y]at c;cases c];exact c) λe m I c=>by
     rw[b9 λC=>by subst C;rw[y]at c;cases c];exact c
    refine⟨rfl,[.im Sx,.eV R9],[],.lst J,[cs,SE],⟨dL,[.ref h],[],[],rfl,⟨hN.mono U.tup,rfl⟩,⟨.ref h,[],[],[],rfl,⟨h,Ti,aS,rfl,dV,f2.mono U.tup,rfl⟩,⟨rfl,rfl⟩,rfl⟩,rfl⟩,iy,db,λI Sf R1 g1 cp c_ S=>?_⟩;have al:Sf h=Z (.cM aS<|.aO Ti):=S.tup.cM h aS _ dV;refine⟨al,?_⟩;have ne:∀{e:ag}{m:eZ},Sf e=Z m->(∀o I,m≠.cM o I)->e≠h:=λc v C=>by
     rw[C,al]at c;exact v _ _ (Option.some.inj c).symm
    have f8:n3 Sf (upd Sf h<|.aO Ti):=λe z c=>by
     rw[b9 (ne c λ_ W C=>by cases C)];exact c
    let⟨D,z,rfl,am,ga,rfl⟩:=cp;have an:=ne am λ_ W C=>by cases C
    have cL:∀e m,e≠h->R5 e=Z m->upd Sf h (.aO Ti) e=Z m:=λe m d c=>by
     rw[b9 d];exact S.keep e m (by rw[b9 d];exact c) fI
    have ap:d8 R5 (upd Sf h<|.aO Ti):=d8.of (λe z c=>cL e _ (λC=>by subst C;rw[y]at c;cases c) c) λe m I c=>cL e _ (λC=>by subst C;rw[y]at c;cases c) c;have same:∀e m,R5 e=Z m->∃SG,upd Sf h (.aO Ti) e=Z SG:=λe m c=>by
     by_cases d:e=h
     ·exact⟨_,by rw[d];exact dV⟩
     ·exact⟨m,cL e m d c⟩
    have ge:∀e∈Sg,∀m,R5 e=Z m->upd Sf h (.aO Ti) e=Z m:=λe W m c=>by
     by_cases d:e=h
     ·subst d;rw[y]at c;rw[dV];exact c
     ·exact cL e m d c
    have as:R5 D=V:=by
     rcases S.sub D (.head _) with C|C
     ·cases C
     ·rwa [b9 an]at C
    refine q _ _ Sg [D] (G.mono ap ge) ⟨D,z,rfl,by rw[b9 an];exact am,bx.ps f8 ds ga,rfl⟩ (M.seq ⟨λe m c d=>cL e m (λC=>d<|C ▸ f4) c,λe d=>?_,?_,ap,same⟩)
    ·rcases dJ.mp d with d|d
     ·exact .inl d
     ·rw[cm.mp d];exact .inr as
    ·refine c1.mpr ⟨M.aj,eY _ _,λe d p gl c=>?_⟩;rw[cm.mp gl]at c;let⟨m,a1,W⟩:=G.chg e d;rw[c,as]at a1;cases a1
   ·cases x
  ·cases x
 ·cases x
def qG(L d:hq):hq:=(λk=>match L k with
 |some u=>Z u
 |none=>d k)
def Q4{R0:bj}{L:hq}(g:jP b Sz R0 L)(e:jP b Sz R0 d):jP b Sz R0 (qG L d):=λG h w j R1 l H=>by
 let⟨k,N,u,Sl,Y,aj,a,q⟩:=H;unfold qG at a;cases c:L k with
 |some SW=>
  rw[c]at a;cases a;exact g h w j R1 l ⟨k,N,u,Sl,Y,aj,c,q⟩
 |none=>
  rw[c]at a;exact e h w j R1 l ⟨k,N,u,Sl,Y,aj,a,q⟩
def Om{L:hq}(g:∀k u Sl,L k=Z (u,Sl)->jk SO u.2)(e:∀k u Sl,d k=Z (u,Sl)->jk SO u.2):∀k u Sl,qG L d k=Z (u,Sl)->jk SO u.2:=by
 intro k u Sl c;unfold qG at c;cases a:L k with
 |some SW=>
  rw[a]at c;cases c;exact g k _ _ a
 |none=>
  rw[a]at c;exact e k _ _ c
def JT(SP:ew):bZ:=(λw j B=>SP w j λT R5=>∃(g:ag) (R:List (List X)) (Sh:List ao),T=[.ref g]/\R5 g=Z (.lst Sh)/\bx R5 (R.map .tup) Sh/\(∀n∈R,X.keys 7 n=aa)/\iI ((hk R).map .tup)/\(hk R).length<300/\
 ∀J SR,R5 J=V->bx R5 (fR bh<|(hk R).map .tup) SR->B (.ref J) (upd R5 J<|.lst SR))
variable{g:bj}
def Po{SP:ew}(a:b.calm=aa)(c:b.A.units+30<bD)(f:ep b "sorted")(i:b.aE "sorted" = V)(k:ep b "set")(m:b.aE "set" = V)(p:gS b [g] SP)(R6:bC [g] b.env=[(ay,bK g b.env)]:=by rfl):
  bH b (.Call (.Name "sorted" SU) [.Call (.Name "set" o) [g] [] Sd] [] Tp) (JT SP):=by
 intro G h w j B l d;refine pz (ql l f i (show gm "sorted" = Z (.builtin "sorted") by decide +kernel) (Fd ?_ rfl rfl) ∅ ∅);refine Fy ?_;refine Call_ (ql l k m (show gm "set" = Z (.type "set") by decide +kernel)<|yv (bO (p Sd G h w j _ l d) λSk F ⟨T,R5,r,s,t⟩=>?_) R6 rfl);let⟨J,R,Sh,rfl,u,RT,v,x,y,q⟩:=t;let⟨I,rfl,z⟩:=i7 s;cases z;exact NI a c r u RT v y λRU SD Se D E=>F4 (L9 a ⋯ D E (λn e C=>C.2) x ⋯ q)
def qR(L:aA (List bz)):aA ai:=(λk=>(L k).bind λo=>(ht o.2 o.1).bind λE=>match E with
 |[.lst f]=>(qp f).bind λR=>if oi R=aa/\mP ((hk R).map .tup)=aa then Z (.lst<|fR bh<|(hk R).map .tup,o.2) else V
 |_=>V)
def OG{L:aA (List bz)}(p:b.A.units+30<bD)(r:ep b "sorted")(v:b.aE "sorted" = V)(x:ep b "set")(y:b.aE "set" = V)(d:fw b [g] L)(R6:bC [g] b.env=[(ay,bK g b.env)]:=by rfl)(C:b.calm=aa:=by rfl):
  cF b (.Call (.Name "sorted" SU) [.Call (.Name "set" o) [g] [] Sd] [] Tp) (qR L):=by
 refine eB (Po C p r v x y d R6) λw j B D=>?_;let⟨k,N,u,Sl,Y,aj,F,q⟩:=D;let⟨⟨M,R_⟩,t,A⟩:=bu.mp F;let⟨E,G,h⟩:=bu.mp A;refine⟨k,N,M,R_,Y,aj,t,λT R5 Sg an i H I=>?_⟩;have P:=H.read i G;split at h
 ·rename_i f;let⟨R,Q,l⟩:=bu.mp h;split at l
  ·rename_i n;cases l;let⟨s,rfl,⟨W,e,z,rfl,S,RT,W⟩⟩:=gy P;cases Gn Q;let⟨U,al⟩:=Nd.mp n.1;refine⟨e,R,z,rfl,S,RT,U,p6.mp n.2,al,λJ SR aT am=>?_⟩;have a:cI R5 (upd R5 J<|.lst SR):=(cI.refl R5).upd aT;exact q _ _ Sg [J] (i.mono a.tupS λg W m c=>a g m c) ⟨J,_,rfl,dV,am.mono a.tupS.tup,rfl⟩ (I.new a (eY _ _) (λg d=>by rw[cm.mp d];exact aT) i.chg)
  ·cases l
 ·cases h
end
end L2
namespace G
open L2
variable{ae:ag}{Sq B z ak Sb RX:List aC}{L:aA ai}{N:cX}{u x d:ai}{k:aW}{f p e:aC}{R:dq}{q o:aC->aC}{SH O:List bT}{w y:Option ai}{v:Nat}
def CG:bF:=((dk<|fO<|av (af<|dz<|av (af<|az hi (af<|az bo (aq 0)<|af<|aF<|.int 0)<|af<|aF<|.int 2)<|av (af<|az bo (aq 0)<|af<|aF<|.int 1) aH)<|av (af<|dz<|av (af<|az bo (aq 0)<|af<|aF<|.int 0)<|av (af<|az hi (af<|az bo (aq 0)<|af<|aF<|.int 1)<|af<|aF<|.int 2) aH)<|av (af<|dz<|av (af<|az bo (aq 0)<|af<|aF<|.int 0)<|av (af<|az dv (af<|az bo (aq 0)<|af<|aF<|.int 1)<|af<|aF<|.int 2) aH)<|av (af<|dz<|av (af<|az dv (af<|az bo (aq 0)<|af<|aF<|.int 0)<|af<|aF<|.int 2)<|av (af<|az bo (aq 0)<|af<|aF<|.int 1) aH) aH))
def kF:cX:=(dy 1 1 [0] CG)
def se:bF:=((b1 (cy 6<|az bo (af<|bV 1 G.kF<|av (af<|az bo (aq 4)<|af<|bV 2 G.ek<|av (aq 0)<|av (af<|bX dw<|av (aq 4) aH) aH) aH)<|af<|bV 2 G.ek<|av (aq 0)<|av (af<|aF<|.int 4) aH)<|fN (gZ (bS<|az mm (aq 6)<|aq 4)<|gZ (bS<|iA fZ fZ (af<|aF<|.int 0) (af<|az bo (aq 6)<|af<|aF<|.int 0)<|af<|aF<|.int 28)<|bS<|iA fZ fZ (af<|aF<|.int 0) (af<|az bo (aq 6)<|af<|aF<|.int 1)<|af<|aF<|.int 28) (iM<|gI iD 4 hI<|av (aq 6) aH) hT))
def A_:bF:=((b1 (nf 2 3<|av (af<|bV 2 G.ek<|av (aq 0)<|av (af<|aF<|.int 2) aH)<|av (af<|bV 2 G.ek<|av (aq 0)<|av (af<|aF<|.int 2) aH) aH)<|b1 (cy 4<|fO<|av (af<|dz<|av (af<|az dv (af<|aF<|.int 8)<|aq 2)<|av (af<|az dv (af<|aF<|.int 8)<|aq 3) aH) aH)<|b1 (gz (jr<|av (af<|bV 2 G.ek<|av (aq 0)<|av (aq 1) aH) aH) (cz 5) G.se)<|dk<|bX hG<|av (aq 4) aH))
def ox:cX:=(dy 2 7 [0,1] A_)
def zC(l:ag):bF:=((b1 (hH l 0 0 "first"<|fF 1)<|b1 (hH l 0 1 "ground"<|fF 1)<|b1 (hH l 0 2 "branches"<|fF 2)<|b1 (hH l 0 3 "place"<|fF 3)<|b1 (hH l 0 4 "over"<|BN (fF 3)<|aF<|.aN aa)<|hH l 0 5 "taken" wj))
def oe(l:ag):cX:=(dy 4 4 [0,1,2,3] (zC l))
def uy:bF:=((iM<|gI iD 1 o4<|av (af<|fO<|av (af<|dz<|av (aq 2)<|av (aq 3) aH)<|av (af<|dz<|av (aq 2)<|av (af<|az dv (aq 3)<|af<|aF<|.int 1) aH)<|av (af<|dz<|av (af<|az dv (aq 2)<|af<|aF<|.int 1)<|av (aq 3) aH)<|av (af<|dz<|av (af<|az dv (aq 2)<|af<|aF<|.int 1)<|av (af<|az dv (aq 3)<|af<|aF<|.int 1) aH) aH) aH))
def Ga:bF:=((b1 (cy 1<|fO aH)<|b1 (gz (eP<|aq 0) (lX 2<|h9 (cz 2)<|h9 (cz 3) nL) G.uy)<|dk<|bX hU<|av (af<|bX hG<|av (aq 1) aH) aH))
def oF:cX:=(dy 1 4 [0] Ga)
def BF:aA ai:=((dz<|av (aq 2)<|av (aq 0) aH))
def Af:aA Bool:=((bS<|az oM (aq 0)<|aq 1))
def qF:bF:=((iM<|gI iD 2 o4<|av (af<|gK 1 [1,3] (eP<|af<|kW (af<|bV 1 G.kF<|av (aq 3) aH) (mH<|aF<|.int 2) ma) (cz 0) G.Af G.BF) aH))
def yM:aA ai:=((dz<|av (aq 0)<|av (aq 0) aH))
def n_:bF:=((iS (k5 (bS<|az iH (af<|az bo (aq 4)<|aq 3)<|aq 9) (az bo (aq 4)<|aq 7)<|az bo (aq 4)<|aq 3)<|m6 4 (fF 3) jY))
def sF:bF:=((b1 (iS (gI iD 2 oq<|av (af<|bV 2 G.ek<|av (aq 0)<|av (af<|bX dw<|av (aq 2) aH) aH) aH)<|lX 2<|h9 (cz 7)<|h9 (cz 8) nL)<|fN (bS<|az dD (af<|az bo (aq 4)<|aq 7)<|af<|az bo (aq 4)<|aq 8) (b1 (cy 9<|az bo (aq 4)<|aq 8)<|b1 (gz (eP<|aq 1) (cz 3) G.n_)<|iM<|gI iD 5 hI<|av (af<|dz<|av (aq 7)<|av (aq 8) aH) aH) hT))
def CE:bF:=((b1 (cy 2<|fO aH)<|b1 (we 1 (cz 3) G.qF)<|b1 (cy 4<|bX oB<|av (af<|gK 1 [] (eP<|aq 1) (cz 0) ot G.yM) aH)<|b1 (cy 5<|fO aH)<|b1 (gz (jr<|av (af<|bX dw<|av (aq 2) aH) aH) (cz 6) G.sF)<|dk<|bX hU<|av (af<|bX hG<|av (aq 5) aH) aH))
def pb:cX:=(dy 2 10 [0,1] CE)
def F_(l:ag):bF:=((dk<|fa l 0 3 "place"))
def mf(l:ag):cX:=(dy 1 1 [0] (F_ l))
def GA(l:ag):bF:=((dk<|bX hU<|av (af<|uM hG l 0 4 "over") aH))
def l_(l:ag):cX:=(dy 1 1 [0] (GA l))
def so:bF:=((iS (aF<|.aN aa)<|m6 1 (fF 2) jY))
def yR:bF:=((b1 (cy 1 wj)<|b1 (gz (qG (eP<|aq 0)<|wo<|aq 0) (cz 2) G.so)<|dk<|fF 1))
def l3:cX:=(dy 1 3 [0] yR)
def xt:aA ai:=((fF 0))
def vW:aA Bool:=((bS<|az mm (aq 0)<|aq 1))
def xI:bF:=((b1 (cy 2<|bV 1 G.l3<|av (aq 1) aH)<|dk<|gK 1 [2] (eP<|aq 0) (cz 0) G.vW G.xt))
def jm:cX:=(dy 2 3 [0,1] xI)
def Cq(l:ag):bF:=((dk<|bX hU<|av (af<|rn G.jm (af<|fa l 0 1 "ground") l 0 4 "over") aH))
def kx(l:ag):cX:=(dy 1 1 [0] (Cq l))
def BJ(l:ag):bF:=((dk<|fa l 0 1 "ground"))
def oz(l:ag):cX:=(dy 1 1 [0] (BJ l))
def Em(l:ag):bF:=((dk<|fa l 0 2 "branches"))
def nV(l:ag):cX:=(dy 1 1 [0] (Em l))
def FH(l:ag)(R:dq):bF:=((b1 (hH l 0 3 "place"<|bV 3 (G.hY R)<|av (af<|fa l 0 1 "ground")<|av (af<|fa l 0 2 "branches")<|av (af<|fa l 0 3 "place") aH)<|b1 (iS (aF<|.aN aa)<|pk l 0 4 "over" 3 "place" jY)<|dk<|fa l 0 3 "place"))
def m4(l:ag)(R:dq):cX:=(dy 1 1 [0] (FH l R))
def Fv(l:ag):bF:=((dk<|bX hU<|av (af<|bV 2 G.jm<|av (af<|rn G.jm (af<|fa l 0 0 "first") l 0 4 "over")<|av (af<|fa l 0 1 "ground") aH) aH))
def oo(l:ag):cX:=(dy 1 1 [0] (Fv l))
def tk(l:ag)(R:dq):aA ai:=((fF 0))
def sP(l:ag)(R:dq):aA Bool:=((bS<|az mm (aq 0)<|aq 1))
def qw(l:ag)(R:dq):bF:=((b1 (cy 11<|bV 3 (G.hY R)<|av (aq 4)<|av (aq 5)<|av (af<|az bo (aq 6)<|af<|az fg (af<|az dv (aq 7)<|aq 10)<|af<|bX dw<|av (aq 6) aH) aH)<|b1 (fN (ju (bS<|az dD (aq 11)<|af<|az bo (aq 6)<|af<|az fg (af<|az dv (af<|az dv (aq 7)<|aq 10)<|af<|aF<|.int 1)<|af<|bX dw<|av (aq 6) aH)<|ju (bS<|az dD (af<|dY l 8 "step"<|G.m4 l R)<|aq 11)<|bS<|az dD (af<|dY l 8 "at"<|G.mf l)<|aq 11) (dk<|aF<|.aN ay) hT)<|b1 (iM<|gI iD 9 hI<|av (aq 11) aH)<|b1 (fN (ju (bS<|az dD (af<|dY l 8 "mown"<|G.l_ l)<|af<|bX hU<|av (af<|qR<|av (aq 9) aH) aH)<|bS<|az dD (af<|dY l 8 "lost"<|G.oo l)<|af<|dz aH) (dk<|aF<|.aN ay) hT)<|b1 (fN (bS<|az dD (af<|dY l 8 "left"<|G.kx l)<|af<|bX hU<|av (af<|gK 1 [9] (eP<|aq 4) (cz 0) (G.sP l R)<|G.tk l R) aH) (dk<|aF<|.aN ay) hT)<|fN (gZ (bS<|az ry (af<|az dv (aq 10)<|af<|aF<|.int 2)<|af<|bX dw<|av (aq 4) aH)<|bS<|az dD (af<|dY l 8 "left"<|G.kx l)<|af<|dz aH) (dk<|aF<|.aN ay) hT))
def uX(l:ag)(R:dq):bF:=((b1 (cy 2<|bV 2 G.nk<|av (aq 0)<|av (aq 1) aH)<|b1 (cy 3<|bV 2 G.ox<|av (aq 2)<|av (af<|az bo (af<|fO<|av (af<|aF<|.int 12)<|av (af<|aF<|.int 35) aH)<|af<|bX vInt<|av (af<|az iH (af<|bV 2 G.ek<|av (aq 2)<|av (af<|aF<|.int 8) aH)<|af<|aF<|.int 0) aH) aH)<|b1 (nf 4 5<|av (af<|bV 1 G.oF<|av (aq 3) aH)<|av (af<|bV 2 G.pb<|av (aq 2)<|av (aq 3) aH) aH)<|b1 (cy 6<|bV 2 (G.nz R)<|av (aq 4)<|av (aq 5) aH)<|b1 (cy 7<|bV 2 G.ek<|av (aq 2)<|av (af<|bX dw<|av (aq 6) aH) aH)<|b1 (cy 8<|pa l (G.oe l) 3<|av (aq 4)<|av (aq 5)<|av (af<|az bo (aq 6)<|aq 7) aH)<|b1 (cy 9<|fO<|av (af<|az bo (aq 6)<|aq 7) aH)<|b1 (fN (ju (bS<|az dD (af<|dY l 8 "at"<|G.mf l)<|af<|az bo (aq 6)<|aq 7)<|ju (bS<|az dD (af<|dY l 8 "mown"<|G.l_ l)<|af<|dz<|av (af<|az bo (aq 6)<|aq 7) aH)<|bS<|az dD (af<|bX dw<|av (af<|dY l 8 "left"<|G.kx l) aH)<|af<|az hi (af<|bX dw<|av (aq 4) aH)<|af<|aF<|.int 1) (dk<|aF<|.aN ay) hT)<|b1 (gz (jr<|av (af<|bV 2 G.ek<|av (aq 2)<|av (af<|az dv (af<|bX dw<|av (aq 4) aH)<|af<|aF<|.int 11) aH) aH) (cz 10)<|G.qw l R)<|fN (ju (bS<|az dD (af<|dY l 8 "field"<|G.oz l)<|aq 4)<|bS<|az dD (af<|dY l 8 "tree"<|G.nV l)<|aq 5) (dk<|aF<|.aN ay) hT))
def Ew(l:ag)(R:dq):bF:=((b1 (gz (jr<|av (af<|aF<|.int 3) aH) (cz 1)<|G.uX l R)<|dk<|aF<|.aN aa))
def pd(l:ag)(R:dq):cX:=(dy 1 12 [0] (Ew l R))
def n8(e:aC):List aC:=([(e.1-2,e.2),(e.1,e.2-2),(e.1,e.2+2),(e.1+2,e.2)])
def An(o:aC):kF [.im (ar o)]=Z (bb<|n8 o,[.im (ar o)]):=by
 have a:dQ [X.int o.1,.int o.2] 0=Z (.int o.1):=rfl;have b:dQ [X.int o.1,.int o.2] 1=Z (.int o.2):=rfl;simp -implicitDefEqProofs [kF,CG,ar,n8,a,b]
def O_{x:aC}(d:x∈n8 e):∃h∈lq,x=(e.1+h.1,e.2+h.2):=by
 simp only[n8,cc,fI,hz]at d;rcases d with d|d|d|d
 ·exact⟨(-2,0),by simp[lq],by rw[d];exact dK (by show e.1-2=e.1 + -2;omega) (by show e.2=e.2+0;omega)⟩
 ·exact⟨(0,-2),by simp[lq],by rw[d];exact dK (by show e.1=e.1+0;omega) (by show e.2-2=e.2 + -2;omega)⟩
 ·exact⟨(0,2),by simp[lq],by rw[d];exact dK (by show e.1=e.1+0;omega) (by show e.2+2=e.2+2;omega)⟩
 ·exact⟨(2,0),by simp[lq],by rw[d];exact dK (by show e.1+2=e.1+2;omega) (by show e.2=e.2+0;omega)⟩
abbrev mh(d:ai)(i SE y:Option ai)(RX:List aC)(a w:Option ai):aW:=[Z d,i,SE,y,Z<|bb RX,a,w]
def M_{i SE b:Option ai}(j:fC (v+2) d)(L:mY 40 RX)(as:RX.length<40):
  ∃RU c I,se (mh d i SE y RX b w)=Z (.aL,mh RU i SE y c b I)/\fC v RU/\mY 40 c/\c.length<=RX.length+1:=by
 have a1:=oE.mpr L.ne;let⟨n,t,J,M,S1,R5⟩:=lb (v:=v+1) (i:=(RX.length:Int)) j ⋯ ⋯;obtain⟨p,q⟩:∃p,RX[n.toNat]?=Z p:=⟨RX[n.toNat]'⋯,by simp⟩;let⟨f,a2,N,Sx,SK,g⟩:=lb (v:=v) (i:=4) R5 ⋯ ⋯;obtain⟨m,r⟩:∃x,(n8 p)[f.toNat]?=Z x:=⟨(n8 p)[f.toNat]'(by show f.toNat<4;lia),by simp⟩;have O:=ru M q;have P:=ru Sx r;let⟨Q,rfl⟩:=j.lst;let⟨bd,rfl⟩:=R5.lst;let⟨h,rfl⟩:=g.lst;let⟨x,R,S⟩:=O_ (e0 r);have aL:=An p;obtain⟨k,a⟩:∃k:aW,k=mh (.lst h) i SE y RX b (Z<|.im<|ar m):=⟨_,rfl⟩;have s:cy 6 (az bo (af<|bV 1 G.kF<|av (af<|az bo (aq 4)<|af<|bV 2 G.ek<|av (aq 0)<|av (af<|bX dw<|av (aq 4) aH) aH) aH)<|af<|bV 2 G.ek<|av (aq 0)<|av (af<|aF<|.int 4) aH) (mh (.lst Q) i SE y RX b w)=Z (.aL,k):=by
  rw[a];refine iT (h4 (dM<|eN (dR (dM<|h4 rfl (dM<|eN (dR rfl<|dR (dM<|pF rfl rfl<|CZ RX) rfl) rfl rfl J) rfl rfl<|congrArg (Option.map ai.im) O) rfl) rfl rfl aL) (dM<|eN rfl rfl rfl N) rfl rfl<|congrArg (Option.map ai.im) P) (show 6<7 by decide) rfl
 have T:=vp RX m;have U:bS (az mm (aq 6)<|aq 4) k=Z (!decide (m∈RX),k):=by
  rw[a];show (((gD (ar m)<|bb RX).map λu=>ai.im<|.aN<|!u).map λx=>(x,_)).bind (λo=>(jN o.1).map λe=>(e,o.2))=_;rw[T];rfl
 have S8:bS (iA fZ fZ (af<|aF<|.int 0) (af<|az bo (aq 6)<|af<|aF<|.int 0)<|af<|aF<|.int 28) k=Z (decide (0<=m.1)&&decide (m.1<=28),k):=by
  rw[a];exact Ds rfl rfl rfl rfl rfl
 have al:bS (iA fZ fZ (af<|aF<|.int 0) (af<|az bo (aq 6)<|af<|aF<|.int 1)<|af<|aF<|.int 28) k=Z (decide (0<=m.2)&&decide (m.2<=28),k):=by
  rw[a];exact Ds rfl rfl rfl rfl rfl
 have z:∀e:Bool,e=(!decide (m∈RX)&&((decide (0<=m.1)&&decide (m.1<=28))&&(decide (0<=m.2)&&decide (m.2<=28))))->
   gZ (bS<|az mm (aq 6)<|aq 4) (gZ (bS<|iA fZ fZ (af<|aF<|.int 0) (af<|az bo (aq 6)<|af<|aF<|.int 0)<|af<|aF<|.int 28)<|bS<|iA fZ fZ (af<|aF<|.int 0) (af<|az bo (aq 6)<|af<|aF<|.int 1)<|af<|aF<|.int 28) k=Z (e,k):=by
  intro e am;rw[am];simp -implicitDefEqProofs only[gZ,U,S8,al,gg];generalize (decide (0<=m.1)&&decide (m.1<=28))=D;generalize (decide (0<=m.2)&&decide (m.2<=28))=C;cases decide (m∈RX)<;>cases D<;>rfl
 unfold se;by_cases l:m∉RX/\0<=m.1/\m.1<=28/\0<=m.2/\m.2<=28
 ·have bL:=z aa (by simp[l]);refine⟨.lst h,RX++[m],Z<|.im<|ar m,(dB s).trans<|(wa bL).trans ?_,g,?_,by simp⟩
  ·have an:RX.length<100000:=⋯
   rw[a];exact nZ (mQ rfl rfl rfl rfl rfl (v7 an) rfl)
  ·let⟨A,B,E,F,H⟩:=l;rw[S]at A B E F H ⊢;exact L.add (e0 q) R A ⋯ ⟨B,by dsimp only at E ⊢;lia,F,by dsimp only at H ⊢;lia⟩
 ·have ap:=z ay (by
   cases C:(!decide (m∈RX)&&((decide (0<=m.1)&&decide (m.1<=28))&&(decide (0<=m.2)&&decide (m.2<=28)))) with
   |false=>rfl
   |true=>
    simp at C;exact absurd ⟨C.1,C.2.1.1,C.2.1.2,C.2.2.1,C.2.2.2⟩ l)
  exact⟨.lst h,RX,Z<|.im<|ar m,(dB s).trans ((t6 ap).trans (by rw[a];rfl)),g,L,⋯⟩
def Nh{i:Int}(j:fC (v+1000) d)(E:0<i)(a1:i<=35):∃RU RX,ox [d,aQ i]=Z (bb RX,[RU,aQ i])/\fC v RU/\iq RX/\eU RX:=by
 let⟨b,A,F,a2,bd,Sf⟩:=lb (v:=v+999) (i:=2) j ⋯ ⋯;let⟨h,be,H,Sx,SK,u⟩:=lb (v:=v+998) (i:=2) Sf ⋯ ⋯;let⟨n,t,I,bA,b0,R5⟩:=lb (v:=v+997) (i:=i) u E ⋯;have J:mY 40 [(8+b,8+h)]:=⟨by simp,by simp,by simp,λe l=>by rw[cm.mp l];exact⟨by show 0<=8+b;lia,by show 8+b<=29;lia,by show 0<=8+h;lia,by show 8+h<=29;lia⟩,λg m e l=>by rw[cm.mp l,cm.mp m];exact⟨by simp,by simp⟩,λo W g m e l=>by rw[cm.mp l,cm.mp m]⟩;have x:(f3 0 n.toNat).length=n.toNat:=by rw[f3,bt,fQ]
 let⟨Sl,M,N,RX,p,w,rfl,r,L,D⟩:=rK (Sz:=cz 5) (e:=se) (z:=f3 0 n.toNat) (λa k=>∃d RX p w,k=mh d (Z<|aQ i) (Z<|aQ b) (Z<|aQ h) RX p w/\fC (v+997-2*a) d/\mY 40 RX/\RX.length<=a+1) (k:=mh t (Z<|aQ i) (Z<|aQ b) (Z<|aQ h) [(8+b,8+h)] V V) ⟨t,[(8+b,8+h)],V,V,rfl,R5,J,by simp⟩
  (λa f k P Q=>by
   let⟨d,RX,p,w,rfl,R,L,D⟩:=Q;have RT:a<n.toNat:=by
    have:=(e4.mp P).1
    rwa [x]at this
   let⟨RU,T,bi,c,S,al,bm⟩:=M_ (v:=v+997-2*(a+1)) (i:=Z (aQ i)) (SE:=Z (aQ b)) (y:=Z (aQ h)) (b:=Z (.im f)) (w:=w) (R.mono ⋯) L ⋯;exact⟨mh d (Z<|aQ i) (Z<|aQ b) (Z<|aQ h) RX (Z<|.im f) w,.aL,_,rfl,c,.inl rfl,RU,T,_,_,rfl,S,al,⋯⟩)
 rw[x]at r D;let⟨B,Sr,U,O⟩:=Dd L.aj ⋯;refine⟨N,B,?_,r.mono ⋯,⟨λC=>?_,Sr.nodup_iff.mpr L.aj,by rw[Sr.length_eq];lia,λe l=>L.nT e<|Sr.mem_iff.mp l,λg m e l=>L.par g (Sr.mem_iff.mp m) e<|Sr.mem_iff.mp l,λo am g m e l=>L.con o (λg m e l=>am g (Sr.mem_iff.mpr m) e<|Sr.mem_iff.mpr l) g (Sr.mem_iff.mp m) e<|Sr.mem_iff.mp l⟩,O⟩
 ·let⟨q,rfl⟩:=j.lst;let⟨bn,rfl⟩:=R5.lst;let⟨bs,rfl⟩:=Sf.lst;let⟨s,rfl⟩:=u.lst;let⟨bv,rfl⟩:=r.lst;have an:nx n:=⟨⋯,⋯⟩;have ap:nf 2 3 (av (af<|bV 2 G.ek<|av (aq 0)<|av (af<|aF<|.int 2) aH)<|av (af<|bV 2 G.ek<|av (aq 0)<|av (af<|aF<|.int 2) aH) aH) [Z (.lst q),Z<|aQ i,V,V,V,V,V]=Z (.aL,[Z (.lst s),Z<|aQ i,Z<|aQ b,Z<|aQ h,V,V,V]):=
   C5 (dR (dM<|eN rfl rfl rfl F)<|dR (dM<|eN rfl rfl rfl H) rfl) rfl (show 2<7 by decide) (show 3<7 by decide) rfl;have as:cy 4 (fO<|av (af<|dz<|av (af<|az dv (af<|aF<|.int 8)<|aq 2)<|av (af<|az dv (af<|aF<|.int 8)<|aq 3) aH) aH) [Z (.lst s),Z<|aQ i,Z<|aQ b,Z<|aQ h,V,V,V]=Z (.aL,mh (.lst s) (Z<|aQ i) (Z<|aQ b) (Z<|aQ h) [(8+b,8+h)] V V):=rfl;unfold ox A_;exact ja rfl (fA ap<|fA as<|fA (tP (tb (dR (dM<|eN rfl rfl rfl I) rfl) rfl an) M rfl)<|fB<|Ff rfl U) rfl
 ·subst C;have:=Sr.length_eq;have t:=oE.mpr L.ne;simp at this;lia
def rp(e:aC):List aC:=([e,(e.1,e.2+1),(e.1+1,e.2),(e.1+1,e.2+1)])
def Ph(e:aC):(rp e).Perm (gL e):=.cons _ (.cons _<|.swap _ _ _)
def fj(RX:List aC):List aC:=(RX.flatMap rp)
theorem vi:∀RX:List aC,(fj RX).Perm (cells RX)
 |[]=>.refl _
 |e::RX=>by
  unfold fj cells;rw[k_,k_];exact (Ph e).append (vi RX)
theorem Cd:∀(RX done:List aC) (a SE y:Option ai),4*(done.length+RX.length)<=1000->∃b c,eQ (lX 2<|h9 (cz 2)<|h9 (cz 3) nL) uy (RX.map ar) [a,Z<|bb<|fj done,SE,y]=Z (.aL,[a,Z<|bb<|fj<|done++RX,b,c])
 |[],done,a,SE,y,_=>⟨SE,y,by rw[bR];rfl⟩
 |e::RX,done,a,SE,y,d=>by
  rw[dA]at d;let⟨b,c,f⟩:=Cd RX (done++[e]) a (Z<|aQ e.1) (Z<|aQ e.2) (by rw[d4,mD];lia);refine⟨b,c,?_⟩;have bP:(fj done).length=4*done.length:=by rw[(vi done).length_eq,qc]
  have g:(fj done).map ar++(rp e).map ar=(fj<|done++[e]).map ar:=by
   unfold fj;rw[List.flatMap_append];simp
  have h:(fj done).length+(rp e).length<=100000:=by show (fj done).length+4<=_;lia
  rw[bY,eQ];dsimp only;rw[show lX 2 (h9 (cz 2)<|h9 (cz 3) nL) (.im<|ar e) [a,Z<|bb<|fj done,SE,y]=Z [a,Z<|bb<|fj done,Z<|aQ e.1,Z<|aQ e.2] from rfl];show (uy _).bind _=_;have i:o4 (bb<|fj done) [bb (rp e)]=Z (.im .aX,bb<|fj<|done++[e]):=by
   show _=Z (ai.im .aX,ai.lst<|(fj<|done++[e]).map ar);rw[<-g];exact aD (by rw[bt,bt];exact h)
  rw[show uy [a,Z<|bb<|fj done,Z<|aQ e.1,Z<|aQ e.2]=Z (.aL,[a,Z<|bb<|fj<|done++[e],Z<|aQ e.1,Z<|aQ e.2]) from nZ (mQ rfl rfl rfl rfl rfl i (by rfl))];rw[show done++e::RX=done++[e]++RX by simp];exact f
def N0(SM:iq RX):∃ak,oF [bb RX]=Z (aU ak,[bb RX])/\ak.Perm (cells RX)/\eU ak:=by
 have d:=SM.len;have b:=vi RX;have bP:(fj RX).length=4*RX.length:=by rw[b.length_eq,qc]
 let⟨SE,y,c⟩:=Cd RX [] (Z<|.ed) V V (by simp;lia);let⟨ak,Sr,U,O⟩:=Dd (b.nodup_iff.mpr SM.Es) ⋯;refine⟨ak,?_,Sr.trans b,O⟩;unfold oF Ga;refine j0 [Z (bb RX),Z<|bb<|fj RX,SE,y] rfl ((dB (R_:=[Z (bb RX),Z<|bb<|fj [],V,V]) rfl).trans<|(dB<|(oL (m:=Z (0,bb RX)) (z:=RX.map ar) (R_:=[Z .ed,Z<|bb<|fj [],V,V]) rfl c).trans rfl).trans<|fB ?_) rfl;exact nK (Ff (k:=[Z (bb RX),Z<|bb<|fj RX,SE,y]) (a:=1) rfl U)
def Q0{RY:List bT}{u:aW}(h:RY.length<=1000):qF (Z d::Z (bb RX)::Z (da RY)::Z (.im<|ar e)::u)=Z (.aL,Z d::Z (bb RX)::Z (da<|RY++gO RX e)::Z (.im<|ar e)::u):=by
 obtain⟨k,a⟩:∃k:aW,k=Z d::Z (bb RX)::Z (da RY)::Z (.im<|ar e)::u:=⟨_,rfl⟩;have bJ:kW (af<|bV 1 G.kF<|av (aq 3) aH) (mH<|aF<|.int 2) ma k=Z (bb [(e.1,e.2+2),(e.1+2,e.2)],k):=by
  rw[a];exact O4 (dM<|eN rfl rfl rfl<|An e) rfl rfl rfl rfl
 have R0:eP (af<|kW (af<|bV 1 G.kF<|av (aq 3) aH) (mH<|aF<|.int 2) ma) k=Z ((([(e.1,e.2+2),(e.1+2,e.2)]:List aC).map ar,V),k):=by
  have:=bE bJ;unfold eP;rw[this];rfl
 have b:gK 1 [1,3] (eP<|af<|kW (af<|bV 1 G.kF<|av (aq 3) aH) (mH<|aF<|.int 2) ma) (cz 0) G.Af G.BF k=Z (da<|gO RX e,k):=by
  rw[a]at R0 ⊢;refine (uW R0 (oC _ (λm=>decide (m∈RX)) (λm=>b7 (e,m)) [(e.1,e.2+2),(e.1+2,e.2)] [] (λm i=>?_) (by show 0+2<=100000;decide))).trans ?_
  ·refine⟨[Z (.im<|ar m),Z<|bb RX,Z<|.im<|ar e],[Z (.im<|ar m),Z<|bb RX,Z<|.im<|ar e],rfl,?_,λ_=>rfl,λ_=>⟨_,rfl,rfl⟩⟩;have c:=vp RX m;show (((gD (ar m)<|bb RX).map λu=>ai.im<|.aN u).map λx=>(x,_)).bind (λo=>(jN o.1).map λe=>(e,o.2))=_;rw[c];rfl
  ·show Z (ai.lst _,_)=Z (ai.lst<|(gO RX e).map b7,_);unfold gO;rw[g8];rfl
 have a5:=w0 RX e;have f:(RY.map b7).length+((gO RX e).map b7).length<=100000:=by rw[bt,bt];lia
 have g:o4 (da RY) [da (gO RX e)]=Z (.im .aX,da<|RY++gO RX e):=by
  show (if _ then _ else _)=_;rw[aD f,<-gq]
 rw[a]at b;unfold qF;exact nZ (mQ rfl rfl (eL (bE b) rfl) rfl rfl g rfl)
def Ej(RX:List aC)(d:Option ai)(u:aW):ow (d::Z (bb RX)::u) 1 (RX.map ar)=aa:=by
 unfold ow;simp
theorem EG{d:ai}{RX:List aC}{u:aW}:∀(a:List aC) (RY:List bT) (y:Option ai),RY.length+2*a.length<=1000->∃b,kk 1 (RX.map ar) (cz 3) qF (a.map ar) (Z d::Z (bb RX)::Z (da RY)::y::u)=Z (.aL,Z d::Z (bb RX)::Z (da<|RY++a.flatMap (gO RX))::b::u)
 |[],RY,y,_=>⟨y,by
  rw[DS,kk];dsimp only;rw[aD (Ej RX _ _),List.flatMap_nil,bR]⟩
 |e::a,RY,y,c=>by
  rw[dA]at c;have a5:=w0 RX e;let⟨b,f⟩:=EG a (RY++gO RX e) (Z<|.im<|ar e) (by rw[d4];lia);refine⟨b,?_⟩;rw[bY,kk];dsimp only;rw[aD (Ej RX _ _),show cz 3 (.im<|ar e) (Z d::Z (bb RX)::Z (da RY)::y::u)=Z (Z d::Z (bb RX)::Z (da RY)::Z (.im<|ar e)::u) by simp];show (qF _).bind _=_;rw[Q0 ⋯,k_,<-bg];exact f
def fe(o:aC->aC)(m H:aC)(done:List aC)(f:aC):aC:=(if f∈done then (if o f=m then H else o f) else o f)
def Mw{F:aC->aC}{s:aC}(a:e∈RX)(b:RX.length<100000):jY (.aO<|d5 RX F) (.im<|ar e) (.im<|ar s)=Z (.aO<|d5 RX λf=>if f=e then s else F f):=by
 have g:((d5 RX F).any λd=>decide (d.1=cZ e))=aa:=by
  unfold d5;rw[s_,od];exact⟨e,a,by simp⟩
 show (if X.keys 7 (cZ e)=aa/\(d5 RX F).length<100000 then Z (ai.aO<|iL (d5 RX F) (cZ e)<|ar s) else V)=_;rw[aD ⟨r9 e,by unfold d5;rw[bt];exact b⟩];unfold iL;rw[aD g];unfold d5;rw[g8];refine congrArg (λJ=>Z<|ai.aO J) (qi λf W=>?_);show (if cZ f=cZ e then (cZ f,ar s) else (cZ f,ar<|F f))=(cZ f,ar<|if f=e then s else F f);by_cases C:f=e
 ·rw[aD C,aD (by rw[C])]
 ·rw[aG C,aG λc=>C<|ov c]
abbrev lK(d:ai)(a:Option ai)(O:List bT)(y:Option ai)(RX:List aC)(F:aC->aC)(SH:List bT)(w:Option ai)(c:bT)(m:aC):aW:=[Z d,a,Z<|da O,y,Z<|.aO<|d5 RX F,Z<|da SH,w,Z<|.im<|ar c.1,Z<|.im<|ar c.2,Z<|.im<|ar m]
def MA{a:Option ai}{done:List aC}{c:bT}(n:RX.length<1000)(b:e∈RX)(h:e∉done)(t:c.1∈RX)(i:o c.1≠o c.2):
  n_ (lK d a O (Z<|.im<|ar e) RX (fe o (o c.2) (o c.1) done) SH w c<|o c.2)=Z (.aL,lK d a O (Z<|.im<|ar e) RX (fe o (o c.2) (o c.1)<|done++[e]) SH w c<|o c.2):=by
 have j:fe o (o c.2) (o c.1) done e=o e:=aG h;have k:fe o (o c.2) (o c.1) done c.1=o c.1:=by
  unfold fe;rw[aG i];split<;>rfl
 have f:=uF (fe o (o c.2) (o c.1) done) b;have g:=uF (fe o (o c.2) (o c.1) done) t;rw[j]at f;rw[k]at g;have q:=Qm (o e) (o c.2);have pt:=Mw (F:=fe o (o c.2) (o c.1) done) (s:=if o e=o c.2 then o c.1 else o e) b ⋯;have l:(λf=>if f=e then (if o e=o c.2 then o c.1 else o e) else fe o (o c.2) (o c.1) done f)=fe o (o c.2) (o c.1) (done++[e]):=by
  funext f;unfold fe;by_cases C:f=e
  ·subst C;rw[aD rfl,aD<|di _<|.head _]
  ·rw[aG C];by_cases D:f∈done
   ·rw[aD D,aD<|ea _ D]
   ·rw[aG D,aG (by simp[D,C])]
 rw[l]at pt;have m:k5 (bS<|az iH (af<|az bo (aq 4)<|aq 3)<|aq 9) (az bo (aq 4)<|aq 7) (az bo (aq 4)<|aq 3) (lK d a O (Z<|.im<|ar e) RX (fe o (o c.2) (o c.1) done) SH w c<|o c.2)=Z (.im<|ar<|if o e=o c.2 then o c.1 else o e,lK d a O (Z<|.im<|ar e) RX (fe o (o c.2) (o c.1) done) SH w c<|o c.2):=by
  by_cases C:o e=o c.2
  ·rw[er C]at q;rw[aD C];exact LV (gH<|df (bE<|es f) rfl rfl rfl q) (es g)
  ·rw[eX C]at q;rw[aG C];exact Jq (gH<|df (bE<|es f) rfl rfl rfl q) (es f)
 unfold n_;refine s7 m ?_;show ((jY (.aO<|d5 RX<|fe o (o c.2) (o c.1) done) (.im<|ar e)<|.im<|ar<|if o e=o c.2 then o c.1 else o e).map λp=>_)=_;rw[pt];rfl
theorem AU{d:ai}{b w:Option ai}{O SH:List bT}{RX:List aC}{o:aC->aC}{c:bT}(h:RX.length<1000)(t:c.1∈RX)(i:o c.1≠o c.2):∀(a done:List aC) (y:Option ai),(done++a).Nodup->(∀e∈a,e∈RX)->
  ∃g,eQ (cz 3) n_ (a.map ar) (lK d b O y RX (fe o (o c.2) (o c.1) done) SH w c<|o c.2)=Z (.aL,lK d b O g RX (fe o (o c.2) (o c.1)<|done++a) SH w c<|o c.2)
 |[],done,y,_,_=>⟨y,by rw[bR];rfl⟩
 |e::a,done,y,aj,R6=>by
  let⟨g,j⟩:=AU h t i a (done++[e]) (Z<|.im<|ar e) (by rw[bg];exact aj) λf k=>R6 f (.tail _ k);refine⟨g,?_⟩;have l:e∉done:=λm=>(c1.mp aj).2.2 e m e (.head _) rfl;rw[bY,eQ];dsimp only;rw[show cz 3 (.im<|ar e) (lK d b O y RX (fe o (o c.2) (o c.1) done) SH w c<|o c.2)=Z (lK d b O (Z<|.im<|ar e) RX (fe o (o c.2) (o c.1) done) SH w c<|o c.2) from rfl];show (n_ _).bind _=_;rw[MA h (R6 e<|.head _) l t i];rw[show done++e::a=done++[e]++a by simp];exact j
def NG(RX:List aC)(o:aC->aC)(m H:aC):d5 RX (fe o m H RX)=d5 RX λf=>if o f=m then H else o f:=by
 unfold d5;refine qi λf a=>?_;unfold fe;rw[aD a]
def QZ(o:aC->aC)(m H:aC):fe o m H []=o:=by
 funext f;exact aG ↥0
def O5(d:∀g e,o g=o e↔q g=q e){I s:aC}(g e:aC):(if o g=o I then o s else o g)=(if o e=o I then o s else o e)↔(if q g=q s then q I else q g)=(if q e=q s then q I else q e):=by
 have t:=d g I;have A:=d e I;have a:=d g s;have b:=d e s;have c:=d g e;have f:=d I s;generalize o g=bG at *;generalize o e=jJ at *;generalize o I=h at *;generalize o s=cn at *;generalize q g=sC at *;generalize q e=r7 at *;generalize q I=i at *;generalize q s=j at *;grind
abbrev gR(d:ai)(RX:List aC)(O:List bT)(y:Option ai)(q:aC->aC)(SH:List bT)(w a b c:Option ai):aW:=[Z d,Z<|bb RX,Z<|da O,y,Z<|.aO<|d5 RX q,Z<|da SH,w,a,b,c]
def KL{F H b:Option ai}(SM:iq RX)(j:fC (v+1) d)(Q:jW RX O SH o)(h:∀g e,o g=o e↔q g=q e)(P:O≠[]):
  ∃RU r I u x R S T U,sF (gR d RX O y q SH w F H b)=Z (.aL,gR RU RX r R x I w S T U)/\fC v RU/\jW RX r I u/\(∀g e,u g=u e↔x g=x e)/\r.length+1=O.length:=by
 have bi:=oE.mpr P;have bm:=Q.len;have aN:=SM.len;let⟨s,t,al,am,S1,R5⟩:=lb (v:=v) (i:=(O.length:Int)) j (by omega) (by omega);obtain⟨c,l⟩:∃c,O[s.toNat]?=Z c:=⟨O[s.toNat]'(by omega),by simp⟩;let⟨an,rfl⟩:=j.lst;let⟨a,rfl⟩:=R5.lst;have A:=Q.lE c (e0 l);have B:iS (gI iD 2 oq<|av (af<|bV 2 G.ek<|av (aq 0)<|av (af<|bX dw<|av (aq 2) aH) aH) aH) (lX 2<|h9 (cz 7)<|h9 (cz 8) nL) (gR (.lst an) RX O y q SH w F H b)=Z (.aL,gR (.lst a) RX (O.eraseIdx s.toNat) y q SH w (Z<|.im<|ar c.1) (Z<|.im<|ar c.2) b):=by
  have ap:(O.map b7)[s.toNat]?=Z (b7 c):=by rw[dT,l];rfl
  have as:(0<=s/\s<((O.map b7).length:Int)):=⟨am,by rw[bt];exact S1⟩;have a1:=AE b7 O s.toNat;have D:oq (da O) [aQ s]=Z (.im<|b7 c,da<|O.eraseIdx s.toNat):=by
   show (if 0<=s/\s<((O.map b7).length:Int) then _ else V)=_;rw[aD as,ap,a1];rfl
  exact s7 (mQ rfl rfl (dR (dM<|eN (dR rfl<|dR (dM<|pF rfl rfl<|Az O) rfl) rfl rfl al) rfl) rfl rfl D (by rfl)) (by rfl)
 have J:(O.eraseIdx s.toNat).length+1=O.length:=by rw[xH,aD (by omega)];omega
 have a2:=uF q A.1;have M:=uF q A.2.1;have bd:=Cv (q c.1) (q c.2);obtain⟨k,n⟩:∃k:aW,k=gR (.lst a) RX (O.eraseIdx s.toNat) y q SH w (Z<|.im<|ar c.1) (Z<|.im<|ar c.2) b:=⟨_,rfl⟩;have p:bS (az dD (af<|az bo (aq 4)<|aq 7)<|af<|az bo (aq 4)<|aq 8) k=Z (!decide (q c.1=q c.2),k):=by
  rw[n];exact gH (df (bE<|es a2) (bE<|es M) rfl rfl bd)
 rw[<-n]at B;unfold sF;by_cases C:q c.1=q c.2
 ·rw[er C]at p;exact⟨.lst a,_,SH,o,q,y,Z<|.im<|ar c.1,Z<|.im<|ar c.2,b,(dB B).trans ((t6 p).trans (by rw[n];rfl)),R5,Q.drop l<|(h _ _).mpr C,h,J⟩
 ·rw[eX C]at p;let⟨E,N⟩:=AU (d:=.lst a) (b:=Z .ed) (w:=w) (O:=O.eraseIdx s.toNat) (SH:=SH) (RX:=RX) (o:=q) (c:=c) ⋯ A.1 C RX [] y (by rw[iC];exact SM.aj) λ_ d=>d;rw[iC,QZ]at N;refine⟨.lst a,_,SH++[c],_,λf=>if q f=q c.2 then q c.1 else q f,E,Z<|.im<|ar c.1,Z<|.im<|ar c.2,Z<|.im<|ar<|q c.2,(dB B).trans<|(wa p).trans<|(dB (R_:=gR (.lst a) RX (O.eraseIdx s.toNat) y q SH w (Z<|.im<|ar c.1) (Z<|.im<|ar c.2) (Z<|.im<|ar<|q c.2)) ?_).trans<|(dB (R_:=gR (.lst a) RX (O.eraseIdx s.toNat) E (λf=>if q f=q c.2 then q c.1 else q f) SH w (Z<|.im<|ar c.1) (Z<|.im<|ar c.2) (Z<|.im<|ar<|q c.2)) ?_).trans ?_,R5,Q.take l<|λd=>C<|(h _ _).mp d,λg e=>O5 h g e,J⟩
  ·rw[n];exact xr (es M) (show 9<10 by decide) rfl
  ·have:=(oL (Sz:=cz 3) (e:=n_) (m:=Z (1,bb RX)) (z:=RX.map ar) (k:=gR (.lst a) RX (O.eraseIdx s.toNat) y q SH w (Z<|.im<|ar c.1) (Z<|.im<|ar c.2) (Z<|.im<|ar<|q c.2)) (L:=eP (aq 1)) rfl N).trans rfl;refine this.trans ?_;have S2:=NG RX q (q c.2) (q c.1);show Z (nQ.aL,gR (.lst a) RX (O.eraseIdx s.toNat) E (fe q (q c.2) (q c.1) RX) SH w (Z<|.im<|ar c.1) (Z<|.im<|ar c.2)<|Z<|.im<|ar<|q c.2)=_;unfold gR;rw[S2]
  ·have be:SH.length<100000:=by omega
   have D:hI (da SH) [.im (b7 c)]=Z (.im .aX,da<|SH++[c]):=by
    have:hI (da SH) [.im (b7 c)]=Z (.im .aX,.lst<|SH.map b7++[b7 c]):=GG (by rw[bt];exact be);rw[this];simp
   exact nZ (mQ rfl rfl rfl rfl rfl D rfl)
def Hv(SM:iq RX)(j:fC (v+100) d):∃(RU:ai) (R8 SH:List bT) (o:aC->aC),pb [d,bb RX]=Z (.im<|.tup<|R8.map b7,[RU,bb RX])/\fC v RU/\R8.Perm SH/\jR RX SH o/\∀c,hb RX c->o c.1=o c.2:=by
 have aN:=SM.len;have a5:(fq RX).length<=2*RX.length:=zT RX RX;have L:jW RX (fq RX) [] (λe=>e):=⟨.nil,by rw[iC];exact QP SM.aj,by
  rw[u0];lia,λc l=>FA.mp l,λc l=>.inl<|FA.mpr l⟩
 let⟨b,rfl⟩:=j.lst;let⟨h,x⟩:=EG (d:=.lst b) (RX:=RX) (u:=[V,V,V,V,V,V]) RX [] V (by simp;lia);rw[iC]at x;have M:gK 1 [] (eP<|aq 1) (cz 0) ot G.yM [Z (.lst b),Z<|bb RX,Z<|da<|fq RX,h,V,V,V,V,V,V]=Z (.lst<|RX.map λe=>.tup [ar e,ar e],[Z (.lst b),Z<|bb RX,Z<|da<|fq RX,h,V,V,V,V,V,V]):=by
  refine (uW (z:=RX.map ar) (m:=Z (1,bb RX)) (R_:=[Z (.lst b),Z .ed,Z<|da<|fq RX,h,V,V,V,V,V,V]) rfl (Mv _ (λp=>.tup [ar p,ar p]) _ (λp bs=>?_) ⋯)).trans rfl;exact⟨[Z (.im<|ar p)],_,[Z (.im<|ar p)],rfl,rfl,rfl,rfl⟩
 have N:cy 4 (bX oB<|av (af<|gK 1 [] (eP<|aq 1) (cz 0) ot G.yM) aH) [Z (.lst b),Z<|bb RX,Z<|da<|fq RX,h,V,V,V,V,V,V]=Z (.aL,[Z (.lst b),Z<|bb RX,Z<|da<|fq RX,h,Z<|.aO<|d5 RX λe=>e,V,V,V,V,V]):=
  (EX (HX (o:=λe=>e) SM.aj ⋯ M) (show 4<10 by decide)).trans rfl;have A:(f3 0 (fq RX).length).length=(fq RX).length:=by rw[f3,bt,fQ]
 let⟨Sl,P,RU,O,SH,o,q,B,D,E,F,H,rfl,S,i,bv,t⟩:=rK (Sz:=cz 6) (e:=sF) (z:=f3 0 (fq RX).length) (λa k=>∃d O SH o q y w n r s,k=gR d RX O y q SH w n r s/\fC (v+100-a) d/\jW RX O SH o/\(∀g e,o g=o e↔q g=q e)/\O.length+a=(fq RX).length) (k:=gR (.lst b) RX (fq RX) h (λe=>e) [] V V V V) ⟨.lst b,fq RX,[],_,_,h,V,V,V,V,rfl,j,L,λ_ W=>Iff.rfl,rfl⟩
  (λa f k Q R=>by
   let⟨d,O,SH,o,q,y,w,n,r,s,rfl,T,U,al,t⟩:=R;have RT:a<(fq RX).length:=by
    have:=(e4.mp Q).1
    rwa [A]at this
   let⟨RU,am,an,ap,as,ca,cd,ce,ch,c,S,i,a1,J⟩:=KL (v:=v+100-(a+1)) (y:=y) (w:=Z (.im f)) (F:=n) (H:=r) (b:=s) SM (T.mono ⋯) U al (λC=>by rw[C]at t;simp at t;lia);exact⟨gR d RX O y q SH (Z<|.im f) n r s,.aL,_,rfl,c,.inl rfl,RU,am,an,ap,as,_,_,_,_,_,rfl,S,i,a1,⋯⟩)
 rw[A]at S t;have C:O=[]:=xv.mp ⋯;subst C;have I:=i.aj;have a2:=i.len;rw[bR]at I;rw[u0]at a2;let⟨R8,bd,be,ci⟩:=Qo (k:=gR RU RX [] B q SH D E F H) (a:=5) I ⋯ rfl;refine⟨RU,R8,SH,o,?_,S.mono ⋯,bd,i.hR,λc l=>(i.v_ c l).resolve_left ↥0⟩;let⟨bi,rfl⟩:=S.lst;have bm:nx ((fq RX).length:Int):=⟨⋯,⋯⟩;have bn:=Az (fq RX);unfold pb CE;refine j0 (gR (.lst bi) RX [] B q SH D E F H) rfl ((dB (R_:=[Z (.lst b),Z<|bb RX,Z<|da [],V,V,V,V,V,V,V]) rfl).trans<|(dB (R_:=[Z (.lst b),Z<|bb RX,Z<|da<|fq RX,h,V,V,V,V,V,V]) ?_).trans<|(dB N).trans<|(dB (R_:=gR (.lst b) RX (fq RX) h (λe=>e) [] V V V V) rfl).trans<|(dB<|tP (tb (eL (bE<|mq rfl rfl bn) rfl) rfl bm) P rfl).trans<|fB<|nK be) rfl;exact x
structure iU(R:dq)(ak:List aC)(b:X)(Si:Nat)(RY:Nat->aC):Prop where
 kC:∀a,hY R [aU ak,.im b,.im<|ar<|RY a]=Z (.im<|ar<|RY<|a+1,[aU ak,.im b,.im<|ar<|RY a])
 ring:nz R [aU ak,.im b]=Z (aU<|(range Si).map RY,[aU ak,.im b])
 Ic:∀a,RY (a+Si)=RY a
 all:((range Si).map RY).Perm ak
 aj:ak.Nodup
 pos:0<Si
 le:Si<=160
theorem BY{Sj:Type}{F:Sj->Sj}{h:Sj}{Si:Nat}(d:cf F h Si=h):∀a,cf F h (a+Si)=cf F h a
 |0=>by rw[vc];exact d
 |a+1=>by
  rw[show a+1+Si=(a+Si)+1 by omega];exact congrArg F (BY d a)
def KJ(e:oO R){RX ak:List aC}{R8 SH:List bT}{o:aC->aC}(SM:iq RX)(Sr:ak.Perm (cells RX))(O:eU ak)(f:R8.Perm SH)(hR:jR RX SH o)(i:∀c,hb RX c->o c.1=o c.2):
  ∃Si RY,iU R ak (.tup<|R8.map b7) Si RY/\Si=ak.length:=by
 have aN:=SM.len;have p:=oE.mpr SM.ne;have d:∀c∈R8,hb RX c:=λc j=>hR.vP c (f.mem_iff.mp j);have g:=nD.of d;let⟨m,h,b⟩:=Kt SM Sr O;have aT:ak.length=4*RX.length:=by rw[Sr.length_eq,qc]
 have R4:=td d;have k:(m,0)∈d6 RX:=gs.mpr ⟨b,by simp⟩;let⟨l,n⟩:=Hk SM f hR i b;refine⟨4*RX.length,λa=>et<|cf (aL R8) (m,0) a,⟨λa=>?_,Jg e SM h b g d aT,λa=>?_,?_,Sr.nodup_iff.mpr SM.Es,⋯,⋯⟩,aT.symm⟩
 ·have R6:=gs.mp (R4.cf k a);exact Bv e (R8:=R8) SM h b R6.1 R6.2 g
 ·show et (cf (aL R8) (m,0)<|a+4*RX.length)=_;rw[BY n]
 ·have:=l.map et;rw[g8,KX]at this;exact this.trans Sr.symm
section
variable{R:dq}{ak:List aC}{b:X}{Si:Nat}{RY:Nat->aC}
def iU.mod(W:iU R ak b Si RY)(a:Nat):RY (a%Si)=RY a:=by
 have d:∀q,RY (a%Si+Si*q)=RY (a%Si):=λq=>by
  induction q with
  |zero=>rfl
  |succ q c=>rw[Cw,<-oV,W.Ic];exact c
 have:=d (a/Si);rw[Nat.mod_add_div]at this;exact this.symm
def iU.len(W:iU R ak b Si RY):ak.length=Si:=by
 rw[<-W.all.length_eq,bt,fQ]
def iU.mem(W:iU R ak b Si RY)(a:Nat):RY a∈ak:=by
 rw[<-W.mod,<-W.all.mem_iff];exact dS.mpr ⟨a%Si,en.mpr<|jV _ W.pos,rfl⟩
def iU.has(W:iU R ak b Si RY)(g:Nat){p:aC}(d:p∈ak):∃a,a<Si/\RY (g+a)=p:=by
 rw[<-W.all.mem_iff]at d;let⟨r,e,rfl⟩:=dS.mp d;have e:=en.mp e;have f:=W.pos;refine⟨(r+Si-g%Si)%Si,jV _ f,?_⟩;have l:=jV g f;have c:(g+(r+Si-g%Si)%Si)%Si=r%Si:=by
  rw[Nat.add_mod,zp,<-A1,zp,A1];rw[show g%Si+(r+Si-g%Si)=r+Si by omega,Nat.add_mod_right]
 rw[<-W.mod,c,W.mod]
def iU.at(W:iU R ak b Si RY){a:Nat}(d:a<Si):bo (aU<|(range Si).map RY) (aQ (a:Int))=Z (.im<|ar<|RY a):=by
 show (dQ (((range Si).map RY).map ar) (a:Int)).map ai.im=_;rw[ru (p:=RY a) (by omega) (by simp[d])];rfl
end
def bM(Sb:List aC):List (List X×X):=(Sb.map λp=>(cZ p,.aN aa))
def f7(Sb:List aC)(p:aC):List aC:=(if p∈Sb then Sb else Sb++[p])
def Lq:f∈f7 Sb p↔f∈Sb\/f=p:=by
 unfold f7;split
 ·rename_i d;exact⟨.inl,λC=>C.elim id λc=>by rw[c];exact d⟩
 ·simp
def Ox(aj:Sb.Nodup)(p:aC):(f7 Sb p).Nodup:=by
 unfold f7;split
 ·exact aj
 ·rename_i d;rw[c1];exact⟨aj,by simp,λg a e b c=>d (by rw[<-cm.mp b,<-c];exact a)⟩
def Gf:((bM Sb).any λa=>decide (a.1=cZ p))=decide (p∈Sb):=by
 rw[iX,fi];unfold bM;rw[s_,od];constructor
 ·rintro⟨f,b,c⟩;rw[<-ov (fK c)];exact b
 ·exact λd=>⟨p,d,by simp⟩
def F6(a:Sb.length<1000):jY (.aO<|bM Sb) (.im<|ar p) (.im<|.aN aa)=Z (.aO<|bM<|f7 Sb p):=by
 show (if X.keys 7 (cZ p)=aa/\(bM Sb).length<100000 then Z (ai.aO<|iL (bM Sb) (cZ p)<|.aN aa) else V)=_;rw[aD ⟨r9 p,by unfold bM;rw[bt];omega⟩];unfold iL f7;rw[Gf];by_cases d:p∈Sb
 ·rw[aD (er d),aD d];refine congrArg (λJ=>Z<|ai.aO J) ?_;unfold bM;rw[g8];refine qi λf W=>?_;show (if cZ f=cZ p then (cZ f,X.aN aa) else (cZ f,.aN aa))=_;split<;>rfl
 ·rw[aG (by simp[d]),aG d];unfold bM;rw[gq];rfl
def KR(Sb:List aC)(p:aC):gD (ar p) (.aO<|bM Sb)=Z (decide (p∈Sb)):=by
 have g:=Gf (Sb:=Sb) (p:=p);have c:(ey (bM Sb)<|cZ p).isSome=decide (p∈Sb):=by
  rw[<-g];unfold ey;rw[ti,iX,List.find?_isSome,od]
 show (if X.keys 7 (cZ p)=aa then Z (ey (bM Sb)<|cZ p).isSome else V)=_;rw[aD (r9 p),c]
def CI(Sb:List aC):((bM Sb).map λa=>X.tup a.1)=Sb.map ar:=by
 unfold bM;rw[g8];rfl
def Bp(aj:Sb.Nodup)(b:Sb.length<=1000):∃B:List aC,B.Perm Sb/\hG [.aO (bM Sb)]=Z (bb B)/\fR bh (Sb.map ar)=B.map ar/\mP (Sb.map ar)=aa:=by
 have c:=FD aj b;let⟨B,Sr,a⟩:=y9 (js<|Sb.map ar);have aS:=p6.mpr c;refine⟨B,Sr,?_,a,aS⟩;show ip ((bM Sb).map λd=>.tup d.1)=_;rw[CI];unfold ip;rw[aD aS,a]
theorem vM:∀(Sb done:List aC) (a SE:Option ai),(done++Sb).Nodup->(done++Sb).length<1000->∃b,eQ (cz 2) so (Sb.map ar) [a,Z<|.aO<|bM done,SE]=Z (.aL,[a,Z<|.aO<|bM<|done++Sb,b])
 |[],done,a,SE,_,_=>⟨SE,by rw[bR];rfl⟩
 |e::Sb,done,a,SE,aj,c=>by
  let⟨b,d⟩:=vM Sb (done++[e]) a (Z<|.im<|ar e) (by rw[bg];exact aj) (by rw[bg];exact c);refine⟨b,?_⟩;have f:e∉done:=λg=>(c1.mp aj).2.2 e g e (.head _) rfl;have pt:=F6 (Sb:=done) (p:=e) (by rw[d4]at c;omega);rw[show f7 done e=done++[e] from aG f]at pt;rw[bY,eQ];dsimp only;rw[show cz 2 (.im<|ar e) [a,Z<|.aO<|bM done,SE]=Z [a,Z<|.aO<|bM done,Z<|.im<|ar e] from rfl];show (so _).bind _=_;rw[show so [a,Z<|.aO<|bM done,Z<|.im<|ar e]=Z (.aL,[a,Z<|.aO<|bM<|done++[e],Z<|.im<|ar e]) from s7 rfl (by
   show ((jY (.aO<|bM done) (.im<|ar e)<|.im<|.aN aa).map λh=>_)=_;rw[pt];rfl)]
  rw[show done++e::Sb=done++[e]++Sb by simp];exact d
def J0(aj:ak.Nodup)(b:ak.length<1000):l3 [aU ak]=Z (.aO<|bM ak,[aU ak]):=by
 let⟨SE,a⟩:=vM ak [] (Z<|aU ak) V aj b;rw[iC]at a;unfold l3 yR;refine ja rfl ((dB (R_:=[Z (aU ak),Z<|.aO<|bM [],V]) rfl).trans<|(dB<|(oL (m:=V) (z:=ak.map ar) (R_:=[Z (aU ak),Z<|.aO<|bM [],V]) rfl a).trans rfl).trans<|fB rfl) rfl
def L_(aj:Sb.Nodup)(b:Sb.length<1000):l3 [.eV (bM Sb)]=Z (.aO<|bM Sb,[.eV (bM Sb)]):=by
 let⟨SE,a⟩:=vM Sb [] (Z<|.eV<|bM Sb) V aj b;rw[iC]at a;have c:=CI Sb;unfold l3 yR;refine ja rfl ((dB (R_:=[Z (.eV<|bM Sb),Z<|.aO<|bM [],V]) rfl).trans<|(dB<|(oL (m:=V) (z:=Sb.map ar) (R_:=[Z (.eV<|bM Sb),Z<|.aO<|bM [],V]) ?_ a).trans rfl).trans<|fB rfl) rfl;rw[<-c];rfl
def cj(z Sb:List aC):List aC:=(z.filter λp=>decide (p∉Sb))
def E8{m:Option (Nat×ai)}{R_:aW}(RT:eP (aq 0) k=Z ((z.map ar,m),R_))(A:jf [2] R_=[Z (.aO<|bM Sb)])(a:kE m (ha [2] [Z (.aO<|bM Sb)] R_)=k)(f:z.length<=1000):
  gK 1 [2] (eP<|aq 0) (cz 0) G.vW G.xt k=Z (bb<|cj z Sb,k):=by
 have d:=oC (own:=1) (Sz:=cz 0) (p:=G.vW) (c:=G.xt) (ae:=[Z (.aO<|bM Sb)]) ar (λp=>decide (p∉Sb)) ar z [] (λp W=>by
  have b:=KR Sb p;refine⟨[Z (.im<|ar p),Z<|.aO<|bM Sb],[Z (.im<|ar p),Z<|.aO<|bM Sb],rfl,?_,λ_=>rfl,λ_=>⟨_,rfl,rfl⟩⟩;show (((gD (ar p)<|.aO<|bM Sb).map λu=>ai.im<|.aN<|!u).map λx=>(x,_)).bind (λo=>(jN o.1).map λe=>(e,o.2))=_;rw[b];have:(!decide (p∈Sb))=decide (p∉Sb):=by by_cases d:p∈Sb<;>simp[d]
  rw[<-this];rfl) (by show 0+z.length<=100000;omega)
 rw[<-A]at d;refine (uW RT d).trans ?_;rw[A,a];rfl
def De(aj:Sb.Nodup)(a:Sb.length<1000)(b:ak.length<=1000):jm [aU ak,.eV<|bM Sb]=Z (bb<|cj ak Sb,[aU ak,.eV<|bM Sb]):=by
 have lk:=L_ aj a;have c:cy 2 (bV 1 G.l3<|av (aq 1) aH) [Z (aU ak),Z<|.eV<|bM Sb,V]=Z (.aL,[Z (aU ak),Z<|.eV<|bM Sb,Z<|.aO<|bM Sb]):=iT (eN rfl rfl rfl lk) (show 2<3 by decide) rfl;unfold jm xI;exact j0 [Z (aU ak),Z<|.eV<|bM Sb,Z<|.aO<|bM Sb] rfl ((dB c).trans<|fB<|E8 (m:=V) (R_:=[Z (aU ak),Z<|.eV<|bM Sb,Z<|.aO<|bM Sb]) rfl rfl rfl b) rfl
def Ik(aj:ak.Nodup)(a:ak.length<1000)(b:z.length<=1000):jm [bb z,aU ak]=Z (bb<|cj z ak,[bb z,aU ak]):=by
 have lk:=J0 aj a;have c:cy 2 (bV 1 G.l3<|av (aq 1) aH) [Z (bb z),Z<|aU ak,V]=Z (.aL,[Z (bb z),Z<|aU ak,Z<|.aO<|bM ak]):=iT (eN rfl rfl rfl lk) (show 2<3 by decide) rfl;unfold jm xI;exact j0 [Z (bb z),Z<|aU ak,Z<|.aO<|bM ak] rfl ((dB c).trans<|fB<|E8 (m:=Z (0,bb z)) (R_:=[Z .ed,Z<|aU ak,Z<|.aO<|bM ak]) rfl rfl rfl b) rfl
section
variable{ae:ag}{R:List au}{E:List ai}{F:au}{k R_ Sv:aW}{a r:Nat}
def vk(b:k[a]?=Z (Z<|.aS ae R E))(d:R[r]?=Z F)(c:E[r]?=Z x):pv ae a r F k=Z x:=by
 unfold pv;rw[b];show qM ae r F (.aS ae R E)=Z x;unfold qM;dsimp only;rw[aD ⟨rfl,d⟩];exact c
def ks{x:X}(b:k[a]?=Z (Z<|.aS ae R E))(d:R[r]?=Z F)(c:E[r]?=Z (.im x)):fa ae a r F k=Z (.im x,k):=by
 unfold fa;rw[vk b d c];rfl
def G4{SJ:List ai->Option ai}(b:k[a]?=Z (Z<|.aS ae R E))(d:R[r]?=Z F)(c:E[r]?=Z x)(e:SJ [x]=Z u):uM SJ ae a r F k=Z (u,k):=by
 unfold uM;rw[vk b d c];show (SJ [x]).map _=_;rw[e];rfl
def zU{L:aA bz}{f:bz}{Sx:X}{R9:List (List X×X)}{J:List X}{b SE:ai}(c:L k=Z (f,R_))(e:du R_ f=Z (.im Sx))(g:R_[a]?=Z (Z<|.aS ae R E))(d:R[r]?=Z F)(h:E[r]?=Z (.aO R9))(i:N [.im Sx,.eV R9]=Z (.lst J,[b,SE]))(j:X.keys 7 J=aa):
  rn N L ae a r F k=Z (.lst J,R_):=by
 unfold rn;rw[c];dsimp only[gg];rw[e];dsimp only[gg];rw[vk g d h];dsimp only;rw[i];dsimp only;rw[aD j]
def Nk(b:L k=Z (x,R_))(c:R_[a]?=Z (Z<|.aS ae R E))(e:R.length<900)(d:R[r]?=Z F)(f:r<E.length)(g:R_.set a (Z<|.aS ae R<|E.set r x)=Sv):hH ae a r F L k=Z (.aL,Sv):=by
 unfold hH;rw[b];dsimp only[gg];rw[c];dsimp only;rw[aD ⟨rfl,e⟩,aD ⟨d,f⟩,g]
def JP(b:L k=Z (x,R_))(c:R_[a]?=Z (Z<|.aS ae R E))(e:R.length<900)(d:R[r]?≠Z F)(f:R.contains F=ay)(g:R_.set a (Z<|.aS ae (R++[F])<|E++[x])=Sv):hH ae a r F L k=Z (.aL,Sv):=by
 unfold hH;rw[b];dsimp only[gg];rw[c];dsimp only;rw[aD ⟨rfl,e⟩,aG λC=>d C.1,aD f,g]
def MG{pt:ai->ai->ai->Option ai}{b:Nat}{c:au}{x n:X}{e f:ai}(g:k[a]?=Z (Z<|.aS ae R E))(d:R[r]?=Z F)(A:R[b]?=Z c)(h:E[r]?=Z e)(i:E[b]?=Z (.im n))(j:pt e (.im n) (.im x)=Z f)(l:k.set a (Z<|.aS ae R<|E.set r f)=Sv):pk ae a r F b c pt (.im x) k=Z Sv:=by
 unfold pk;rw[g];dsimp only;rw[aD ⟨rfl,d,A⟩,h];dsimp only[gg];rw[i];dsimp only;rw[j,<-l];rfl
def w6{i:au}{b:ai}(c:k[a]?=Z (Z<|.aS ae R E))(d:R.contains i=ay)(e:N [.aS ae R E]=Z (u,[b]))(f:k.set a (Z b)=R_):dY ae a i N k=Z (u,R_):=by
 unfold dY;rw[c];dsimp only;rw[aD ⟨rfl,d⟩,e];dsimp only;rw[f]
def G_{L:aA (List bz)}{M:List bz}{T cj:List ai}{m:ai}{l:aW}(a:L k=Z (M,R_))(b:M.length=v)(c:d2 M R_=Z (T,Sv))(d:N (.aS ae [] []::T)=Z (.im .aX,m::cj))(e:g4 M cj Sv=l):pa ae N v L k=Z (m,l):=by
 unfold pa;rw[a];dsimp only[gg];rw[aD b,c];dsimp only[gg];rw[d];dsimp only;rw[e]
end
def Jx{i:Nat}{Sy:List Nat}{L:bF}{E cj:List ai}(a:E.length=v)(c:L (E.map Z++List.replicate (i-v) V)=Z (.aL,k))(b:ix Sy E k 0=cj):dy v i Sy L E=Z (.im .aX,cj):=by
 unfold dy;rw[aD a,c];dsimp only;rw[b]
abbrev fy:List au:=["first","ground","branches","place","over","taken"]
abbrev cD(ae:ag)(ak:List aC)(b:X)(o:aC)(Sb:List aC):ai:=.aS ae fy [aU ak,aU ak,.im b,.im<|ar o,.aO<|bM Sb,.aO []]
section
variable{ae:ag}{ak Sb:List aC}{b:X}{o:aC}
def Qn:oe ae [.aS ae [] [],aU ak,.im b,.im<|ar o]=Z (.im .aX,[cD ae ak b o [o],aU ak,.im b,.im<|ar o]):=by
 unfold oe zC;have h (R:List au) (E:List ai):∀(r:Nat) (F:au) (L:aA ai) (x:ai),L [Z (.aS ae R E),Z<|aU ak,Z<|.im b,Z<|.im<|ar o]=Z (x,[Z (.aS ae R E),Z<|aU ak,Z<|.im b,Z<|.im<|ar o])->R.length<900->R[r]?≠Z F->R.contains F=ay->hH ae 0 r F L [Z (.aS ae R E),Z<|aU ak,Z<|.im b,Z<|.im<|ar o]=Z (.aL,[Z (.aS ae (R++[F])<|E++[x]),Z<|aU ak,Z<|.im b,Z<|.im<|ar o]):=λr F L x t A a c=>JP t rfl A a c rfl;refine Jx rfl ((dB (h [] [] 0 "first" _ (aU ak) rfl ∅ ∅ ∅)).trans ((dB (h ["first"] [aU ak] 1 "ground" _ (aU ak) rfl ∅ ∅ ∅)).trans ((dB (h ["first","ground"] [aU ak,aU ak] 2 "branches" _ (.im b) rfl ∅ ∅ ∅)).trans ((dB (h ["first","ground","branches"] [aU ak,aU ak,.im b] 3 "place" _ (.im<|ar o) rfl ∅ ∅ ∅)).trans ((dB (h ["first","ground","branches","place"] [aU ak,aU ak,.im b,.im<|ar o] 4 "over" _ (.aO<|bM [o]) rfl ∅ ∅ ∅)).trans (h ["first","ground","branches","place","over"] [aU ak,aU ak,.im b,.im<|ar o,.aO<|bM [o]] 5 "taken" _ (.aO []) rfl ∅ ∅ ∅)))))) rfl
def Ez:mf ae [cD ae ak b o Sb]=Z (.im<|ar o,[cD ae ak b o Sb]):=by
 unfold mf F_;exact ja rfl (fB<|ks (R:=fy) (E:=[aU ak,aU ak,.im b,.im<|ar o,.aO<|bM Sb,.aO []]) rfl rfl rfl) rfl
def HM:oz ae [cD ae ak b o Sb]=Z (aU ak,[cD ae ak b o Sb]):=by
 unfold oz BJ;exact ja rfl (fB<|ks (R:=fy) (E:=[aU ak,aU ak,.im b,.im<|ar o,.aO<|bM Sb,.aO []]) rfl rfl rfl) rfl
def K7:nV ae [cD ae ak b o Sb]=Z (.im b,[cD ae ak b o Sb]):=by
 unfold nV Em;exact ja rfl (fB<|ks (R:=fy) (E:=[aU ak,aU ak,.im b,.im<|ar o,.aO<|bM Sb,.aO []]) rfl rfl rfl) rfl
def ER(d:hG [.aO (bM Sb)]=Z (bb B)):l_ ae [cD ae ak b o Sb]=Z (aU B,[cD ae ak b o Sb]):=by
 unfold l_ GA;exact ja rfl (fB<|nK<|G4 (R:=fy) (E:=[aU ak,aU ak,.im b,.im<|ar o,.aO<|bM Sb,.aO []]) rfl rfl rfl d) rfl
theorem wY:∀J:List aC,X.keys 7 (J.map ar)=aa
 |[]=>rfl
 |p::u=>by
  have:=wY u;rw[bY,X.keys,this];rfl
def CB(aj:Sb.Nodup)(a:Sb.length<1000)(c:ak.length<=1000):kx ae [cD ae ak b o Sb]=Z (aU<|cj ak Sb,[cD ae ak b o Sb]):=by
 have d:=De aj a c;have e:fa ae 0 1 "ground" [Z (cD ae ak b o Sb)]=Z (aU ak,[Z (cD ae ak b o Sb)]):=ks (R:=fy) (E:=[aU ak,aU ak,.im b,.im<|ar o,.aO<|bM Sb,.aO []]) rfl rfl rfl;unfold kx Cq;exact ja rfl (fB<|nK<|zU (bE e) rfl (R:=fy) (E:=[aU ak,aU ak,.im b,.im<|ar o,.aO<|bM Sb,.aO []]) rfl rfl rfl d<|wY _) rfl
def Dt{Sh:List aC}(d:∀f∈z,f∈Sh):cj z Sh=[]:=by
 unfold cj;rw[List.filter_eq_nil_iff];intro g a C;exact fK C (d g a)
def GL(aj:Sb.Nodup)(c:Sb.length<1000)(e:ak.Nodup)(g:ak.length<1000):oo ae [cD ae ak b o Sb]=Z (.im<|.tup [],[cD ae ak b o Sb]):=by
 have d:=De aj c (ak:=ak) (by omega);have sub:∀f∈cj ak Sb,f∈ak:=λf h=>(sE.mp h).1;have A:=Ik e g (z:=cj ak Sb) (by unfold cj;have:=CQ (λp=>decide (p∉Sb)) ak;omega);rw[Dt sub]at A;have i:fa ae 0 0 "first" [Z (cD ae ak b o Sb)]=Z (aU ak,[Z (cD ae ak b o Sb)]):=ks (R:=fy) (E:=[aU ak,aU ak,.im b,.im<|ar o,.aO<|bM Sb,.aO []]) rfl rfl rfl;have j:fa ae 0 1 "ground" [Z (cD ae ak b o Sb)]=Z (aU ak,[Z (cD ae ak b o Sb)]):=ks (R:=fy) (E:=[aU ak,aU ak,.im b,.im<|ar o,.aO<|bM Sb,.aO []]) rfl rfl rfl;have k:=zU (N:=G.jm) (bE i) rfl (R:=fy) (E:=[aU ak,aU ak,.im b,.im<|ar o,.aO<|bM Sb,.aO []]) (a:=0) (r:=4) (F := "over") rfl rfl rfl d (wY _);unfold oo Fv;exact ja rfl (fB<|nK<|tA (eL (bE k)<|eL (bE j) rfl) rfl rfl A rfl) rfl
def IL{q:aC}(a:hY R [aU ak,.im b,.im<|ar o]=Z (.im<|ar q,[aU ak,.im b,.im<|ar o]))(c:Sb.length<1000):m4 ae R [cD ae ak b o Sb]=Z (.im<|ar q,[cD ae ak b q (f7 Sb q)]):=by
 have d:fa ae 0 1 "ground" [Z (cD ae ak b o Sb)]=Z (aU ak,[Z (cD ae ak b o Sb)]):=ks (R:=fy) (E:=[aU ak,aU ak,.im b,.im<|ar o,.aO<|bM Sb,.aO []]) rfl rfl rfl;have e:fa ae 0 2 "branches" [Z (cD ae ak b o Sb)]=Z (.im b,[Z (cD ae ak b o Sb)]):=ks (R:=fy) (E:=[aU ak,aU ak,.im b,.im<|ar o,.aO<|bM Sb,.aO []]) rfl rfl rfl;have f:fa ae 0 3 "place" [Z (cD ae ak b o Sb)]=Z (.im<|ar o,[Z (cD ae ak b o Sb)]):=ks (R:=fy) (E:=[aU ak,aU ak,.im b,.im<|ar o,.aO<|bM Sb,.aO []]) rfl rfl rfl;have g:hH ae 0 3 "place" (bV 3 (G.hY R)<|av (af<|fa ae 0 1 "ground")<|av (af<|fa ae 0 2 "branches")<|av (af<|fa ae 0 3 "place") aH) [Z (cD ae ak b o Sb)]=Z (.aL,[Z (cD ae ak b q Sb)]):=
  Nk (tA (eL (bE d)<|eL (bE e)<|eL (bE f) rfl) rfl rfl a rfl) (R:=fy) (E:=[aU ak,aU ak,.im b,.im<|ar o,.aO<|bM Sb,.aO []]) rfl ∅ rfl (show 3<6 by decide) rfl;have h:iS (aF<|.aN aa) (pk ae 0 4 "over" 3 "place" jY) [Z (cD ae ak b q Sb)]=Z (.aL,[Z (cD ae ak b q<|f7 Sb q)]):=
  s7 rfl (MG (R:=fy) (E:=[aU ak,aU ak,.im b,.im<|ar q,.aO<|bM Sb,.aO []]) rfl rfl rfl rfl rfl (F6 c) rfl);unfold m4 FH;exact ja rfl (fA g<|fA h<|fB<|ks (R:=fy) (E:=[aU ak,aU ak,.im b,.im<|ar q,.aO<|bM<|f7 Sb q,.aO []]) rfl rfl rfl) rfl
end
def fm(Sq:List aC):List aC:=(Sq.foldl f7 [])
def Pj(Sq:List aC)(p:aC):fm (Sq++[p])=f7 (fm Sq) p:=by
 unfold fm;rw[sJ];rfl
theorem EP:∀(Sq a:List aC) (f:aC),f∈Sq.foldl f7 a↔f∈a\/f∈Sq
 |[],a,f=>by simp
 |p::Sq,a,f=>by
  rw[lh,EP Sq,Lq,cc,or_assoc]
def xg:f∈fm Sq↔f∈Sq:=by
 unfold fm;rw[EP];simp
theorem FT:∀(Sq a:List aC),a.Nodup->(Sq.foldl f7 a).Nodup
 |[],_,d=>d
 |p::Sq,a,d=>FT Sq _ (Ox d p)
def yE(Sq:List aC):(fm Sq).Nodup:=FT Sq [] ↥0
def Hs(a:List aC)(p:aC):hj (a.map cZ) (cZ p)=(f7 a p).map cZ:=by
 unfold hj f7;by_cases d:p∈a
 ·rw[aD d,aD<|p3 d]
 ·rw[aG d,aG λC=>by
   let⟨f,b,c⟩:=dS.mp C;exact d (by rw[<-ov c];exact b)]
  rw[gq];rfl
theorem Di:∀(Sq a:List aC),(Sq.map cZ).foldl hj (a.map cZ)=(Sq.foldl f7 a).map cZ
 |[],a=>rfl
 |p::Sq,a=>by
  rw[bY,lh,lh,Hs,Di Sq]
def Je(Sq:List aC):hk (Sq.map cZ)=(fm Sq).map cZ:=Di Sq []
theorem DD:∀Sq:List aC,qp (Sq.map ar)=Z (Sq.map cZ)
 |[]=>rfl
 |p::Sq=>by
  rw[bY,sW,qp,DD Sq];rfl
def OA(Sb:List aC):(Sb.map cZ).map X.tup=Sb.map ar:=by
 rw[g8];rfl
def Iu{a:Nat}(c:k[a]?=Z (Z<|bb Sq))(e:(fm Sq).length<300)(R6:fR bh ((fm Sq).map ar)=B.map ar)(f:mP ((fm Sq).map ar)=aa):qR (av (aq a) aH) k=Z (bb B,k):=by
 have g:=DD Sq;have b:=Je Sq;have d:=OA (fm Sq);have h:oi (Sq.map cZ)=aa:=by
  unfold oi;rw[b,bt,er e,vG,w7,j_];intro p W;rfl
 have i:oi (Sq.map cZ)=aa/\mP ((hk<|Sq.map cZ).map .tup)=aa:=⟨h,by rw[b,d];exact f⟩;have j:av (aq a) aH k=Z ([.bJ a],k):=by
  simp -implicitDefEqProofs only[av,aq,rb,c,gg,o5]
 have l:ht k [.bJ a]=Z [bb Sq]:=by
  simp -implicitDefEqProofs only[qU,rz,x4,c,qz,gg,o5]
 unfold qR;rw[j];dsimp only[gg];rw[l];dsimp only[gg];rw[g];dsimp only[gg];rw[aD i,b,d,R6]
def E3{x:X}(d:X.a5 8 x=aa)(c:b3 x x=aa):dD (.im x) (.im x)=Z (.im<|.aN ay):=by
 show (if (X.a5 8 x&&X.a5 8 x)=aa then Z (ai.im<|.aN<|!b3 x x) else V)=_;rw[d,c];rfl
theorem Dl:∀J:List aC,X.c5 7 (J.map ar)=aa
 |[]=>rfl
 |p::u=>by rw[bY,X.c5,Dl u];rfl
theorem zg:∀J:List aC,e1 (J.map ar) (J.map ar)=aa
 |[]=>rfl
 |p::u=>by rw[bY,e1,zg u,nM,er rfl];rfl
def rL(J:List aC):dD (aU J) (aU J)=Z (.im<|.aN ay):=E3 (Dl J) (zg J)
theorem BQ:∀J:List bT,X.c5 7 (J.map b7)=aa
 |[]=>rfl
 |p::u=>by rw[bY,X.c5,BQ u];rfl
theorem z0:∀J:List bT,e1 (J.map b7) (J.map b7)=aa
 |[]=>rfl
 |p::u=>by rw[bY,e1,z0 u,vz,er rfl];rfl
def Qj(J:List bT):dD (.im<|.tup<|J.map b7) (.im<|.tup<|J.map b7)=Z (.im<|.aN ay):=E3 (BQ J) (z0 J)
def Gv(p:aC):dD (.im<|ar p) (.im<|ar p)=Z (.im<|.aN ay):=by
 have:=Cv p p;rw[er rfl]at this;exact this
def N1(g:k[4]?=Z (Z<|aU ak))(RT:eP (aq 4) k=Z ((ak.map ar,V),k))(a:jf [9] k=[Z (bb Sq)])(b:ha [9] [Z (bb Sq)] k=k)(h:ak.length<=1000):
  gK 1 [9] (eP<|aq 4) (cz 0) (G.sP ae R) (G.tk ae R) k=Z (bb<|cj ak Sq,k):=by
 have d:=oC (own:=1) (Sz:=cz 0) (p:=G.sP ae R) (c:=G.tk ae R) (ae:=[Z (bb Sq)]) ar (λp=>decide (p∉Sq)) ar ak [] (λp W=>by
  have f:=vp Sq p;refine⟨[Z (.im<|ar p),Z<|bb Sq],[Z (.im<|ar p),Z<|bb Sq],rfl,?_,λ_=>rfl,λ_=>⟨_,rfl,rfl⟩⟩;show (((gD (ar p)<|bb Sq).map λu=>ai.im<|.aN<|!u).map λx=>(x,_)).bind (λo=>(jN o.1).map λe=>(e,o.2))=_;rw[f];have:(!decide (p∈Sq))=decide (p∉Sq):=by by_cases d:p∈Sq<;>simp[d]
  rw[<-this];rfl) (by show 0+ak.length<=100000;omega)
 rw[<-a]at d;refine (uW RT d).trans ?_;rw[a];show Z (_,ha [9] [Z (bb Sq)] k)=_;rw[b];rfl
def Mq{g e:List aC}(d:∀f,f∈g↔f∈e):cj z g=cj z e:=by
 unfold cj;congr 1;funext p;rw[iX,fi,fi,d p]
abbrev jn(a c SE y:Option ai)(ak:List aC)(b:X)(eM:List aC)(g:Int)(ae:ag)(o:aC)(Sb Sq:List aC)(n d:Option ai):aW:=[a,c,SE,y,Z<|aU ak,Z<|.im b,Z<|aU eM,Z<|aQ g,Z<|cD ae ak b o Sb,Z<|bb Sq,n,d]
def eD(RY:Nat->aC)(g v:Nat):List aC:=((range v).map λa=>RY (g+a))
def zA(RY:Nat->aC)(g v:Nat):eD RY g (v+1)=eD RY g v++[RY (g+v)]:=by
 unfold eD;rw[A5,gq];rfl
def IE{b:X}{Si:Nat}{RY:Nat->aC}(W:iU R ak b Si RY){j p SE y s:Option ai}{g n:Nat}(f2:n<400):
  qw ae R (jn j p SE y ak b ((range Si).map RY) g ae (RY<|g+n) (fm<|eD RY g<|n+1) (eD RY g<|n+1) (Z<|aQ (n:Int)) s)=Z (.aL,jn j p SE y ak b ((range Si).map RY) g ae (RY<|g+(n+1)) (fm<|eD RY g<|n+1+1) (eD RY g<|n+1+1) (Z<|aQ (n:Int))<|Z<|.im<|ar<|RY<|g+(n+1)):=by
 have bi:=W.pos;have D:=W.len;have f4:=W.le;obtain⟨eM,F⟩:∃eM,eM=(range Si).map RY:=⟨_,rfl⟩;have bm:eM.length=Si:=by rw[F,bt,fQ]
 have le:=l0 eM;rw[bm]at le;have T:∀a:Nat,bo (aU eM) (aQ<|(a:Int)%(Si:Int))=Z (.im<|ar<|RY a):=λa=>by
  have:=W.at (jV a bi);rw[W.mod,<-F]at this;rw[<-this];congr 2
 have al:∀a:Int,fg (aQ a) (aQ (Si:Int))=Z (aQ<|a%(Si:Int)):=λa=>xk (by omega);have am:=T (g+n);have an:=T (g+(n+1));rw[show ((g+n:Nat):Int)=(g:Int)+(n:Int) by omega]at am;rw[show ((g+(n+1):Nat):Int)=(g:Int)+(n:Int)+1 by omega]at an;have aL:=W.kC (g+n);have bn:g+n+1=g+(n+1):=by omega
 rw[bn]at aL;obtain⟨Sb,H⟩:∃Sb,Sb=fm (eD RY g<|n+1):=⟨_,rfl⟩;obtain⟨d,h⟩:∃d,d=fm (eD RY g<|n+1+1):=⟨_,rfl⟩;have bs:f7 Sb (RY<|g+(n+1))=d:=by
  rw[h,zA RY g<|n+1,Pj,H]
 have sub:∀v,∀f∈fm (eD RY g v),f∈ak:=λv f I=>by
  let⟨a,K,rfl⟩:=dS.mp (xg.mp I);exact W.mem _
 have f8:Sb.length<=Si:=by rw[<-D,H];exact qZ (yE _) (sub _)
 have ga:d.length<=Si:=by rw[<-D,h];exact qZ (yE _) (sub _)
 have J:d.Nodup:=by rw[h];exact yE _
 have ap:=IL (ae:=ae) (Sb:=Sb) aL (by omega);rw[bs]at ap;have bv:eD RY g (n+1+1)=eD RY g (n+1)++[RY (g+(n+1))]:=zA RY g (n+1);have ca:(eD RY g<|n+1).length=n+1:=by unfold eD;rw[bt,fQ]
 obtain⟨Sq,x⟩:∃Sq,Sq=eD RY g (n+1):=⟨_,rfl⟩;obtain⟨q,w⟩:∃q,q=eD RY g (n+1+1):=⟨_,rfl⟩;let⟨B,Sr,cd,U,as⟩:=Bp J (by omega);have ce:=ER (ae:=ae) (ak:=ak) (b:=b) (o:=RY (g+(n+1))) cd;have lF:=CB (ae:=ae) (ak:=ak) (b:=b) (o:=RY (g+(n+1))) J (by omega) (by omega);have P:=GL (ae:=ae) (ak:=ak) (b:=b) (o:=RY (g+(n+1))) J (by omega) W.aj (by omega);have ch:=Ez (ae:=ae) (ak:=ak) (b:=b) (o:=RY (g+(n+1))) (Sb:=d);have Tg:cj ak q=cj ak d:=by rw[h,w];exact Mq λf=>xg.symm
 rw[h,<-w]at U as;have L:=Gv (RY<|g+(n+1));obtain⟨R_,M⟩:∃R_:aW,R_=jn j p SE y ak b eM g ae (RY<|g+n) Sb Sq (Z<|aQ (n:Int)) (Z<|.im<|ar<|RY<|g+(n+1)):=⟨_,rfl⟩;obtain⟨Sv,r⟩:∃Sv:aW,Sv=jn j p SE y ak b eM g ae (RY<|g+(n+1)) d Sq (Z<|aQ (n:Int)) (Z<|.im<|ar<|RY<|g+(n+1)):=⟨_,rfl⟩;obtain⟨l,e⟩:∃l:aW,l=jn j p SE y ak b eM g ae (RY<|g+(n+1)) d q (Z<|aQ (n:Int)) (Z<|.im<|ar<|RY<|g+(n+1)):=⟨_,rfl⟩;rw[<-F,<-H,<-h,<-x,<-w,<-e];have ci:cy 11 (bV 3 (G.hY R)<|av (aq 4)<|av (aq 5)<|av (af<|az bo (aq 6)<|af<|az fg (af<|az dv (aq 7)<|aq 10)<|af<|bX dw<|av (aq 6) aH) aH) (jn j p SE y ak b eM g ae (RY<|g+n) Sb Sq (Z<|aQ (n:Int)) s)=Z (.aL,R_):=by
  rw[M];exact iT (eN (eL rfl<|eL rfl<|eL (bE<|df rfl (bE<|df (bE rfl) (bE<|mq rfl rfl le) rfl rfl<|al _) rfl rfl am) rfl) rfl rfl aL) (show 11<12 by decide) rfl
 have cl:bS (az dD (aq 11)<|af<|az bo (aq 6)<|af<|az fg (af<|az dv (af<|az dv (aq 7)<|aq 10)<|af<|aF<|.int 1)<|af<|bX dw<|av (aq 6) aH) R_=Z (ay,R_):=by
  rw[M];exact gH (df rfl (bE<|df rfl (bE<|df (bE<|df (bE rfl) rfl rfl rfl rfl) (bE<|mq rfl rfl le) rfl rfl<|al _) rfl rfl an) rfl rfl L)
 have co:dY ae 8 "step" (G.m4 ae R) R_=Z (.im<|ar<|RY<|g+(n+1),Sv):=by
  rw[M,r];exact w6 (R:=fy) (E:=[aU ak,aU ak,.im b,.im<|ar<|RY<|g+n,.aO<|bM Sb,.aO []]) rfl ∅ ap rfl
 have eG:∀(k:aW) (i:au) (N:cX) (u:ai),k[8]?=Z (Z<|cD ae ak b (RY<|g+(n+1)) d)->k.set 8 (Z<|cD ae ak b (RY<|g+(n+1)) d)=k->fy.contains i=ay->N [cD ae ak b (RY<|g+(n+1)) d]=Z (u,[cD ae ak b (RY<|g+(n+1)) d])->dY ae 8 i N k=Z (u,k):=λk i N u t A cr cs=>w6 (R:=fy) (E:=[aU ak,aU ak,.im b,.im<|ar<|RY<|g+(n+1),.aO<|bM d,.aO []]) t cr cs A;have db:Sv[8]?=Z (Z<|cD ae ak b (RY<|g+(n+1)) d):=by rw[r];rfl
 have ds:Sv.set 8 (Z<|cD ae ak b (RY<|g+(n+1)) d)=Sv:=by rw[r];rfl
 have O:l[8]?=Z (Z<|cD ae ak b (RY<|g+(n+1)) d):=by rw[e];rfl
 have Q:l.set 8 (Z<|cD ae ak b (RY<|g+(n+1)) d)=l:=by rw[e];rfl
 have a1:du Sv (.bJ 11)=Z (.im<|ar<|RY<|g+(n+1)):=by rw[r];rfl
 have s:aq 11 Sv=Z (.bJ 11,Sv):=by rw[r];rfl
 have dL:bS (az dD (af<|dY ae 8 "step"<|G.m4 ae R)<|aq 11) R_=Z (ay,Sv):=xp (h4 (dM co) s rfl a1 L);have eq:bS (az dD (af<|dY ae 8 "at"<|G.mf ae)<|aq 11) Sv=Z (ay,Sv):=gH (df (bE (eG Sv "at" _ _ db ds ∅ ch)) s rfl a1 L);have ev:iM (gI iD 9 hI<|av (aq 11) aH) Sv=Z (.aL,l):=by
  rw[r,e];have ex:Sq.length<100000:=by rw[x,ca];omega
  have a2:=v7 (m:=RY (g+(n+1))) ex;rw[x,<-bv,<-w,<-x]at a2;exact nZ (mQ rfl rfl rfl rfl rfl a2 rfl)
 have fd:=Iu (k:=l) (a:=9) (Sq:=q) (B:=B) (by rw[e];rfl) (by rw[w,<-h];omega) U as;have fn:bS (az dD (af<|dY ae 8 "mown"<|G.l_ ae)<|af<|bX hU<|av (af<|qR<|av (aq 9) aH) aH) l=Z (ay,l):=gH (df (bE (eG l "mown" _ _ O Q ∅ ce)) (bE<|nK fd) rfl rfl<|rL B);have fr:bS (az dD (af<|dY ae 8 "lost"<|G.oo ae)<|af<|dz aH) l=Z (ay,l):=gH (df (bE (eG l "lost" _ _ O Q ∅ P)) (bE rfl) rfl rfl rfl);have bd:=N1 (ae:=ae) (R:=R) (ak:=ak) (Sq:=q) (k:=l) (by rw[e];rfl) (by rw[e];rfl) (by rw[e];rfl) (by rw[e];rfl) (by omega);rw[Tg]at bd;have S:=eG l "left" _ _ O Q ∅ lF;have f0:bS (az dD (af<|dY ae 8 "left"<|G.kx ae)<|af<|bX hU<|av (af<|gK 1 [9] (eP<|aq 4) (cz 0) (G.sP ae R)<|G.tk ae R) aH) l=Z (ay,l):=gH (df (bE S) (bE<|nK bd) rfl rfl<|rL _);have be:=l0 ak;rw[D]at be;have z:bS (az ry (af<|az dv (aq 10)<|af<|aF<|.int 2)<|af<|bX dw<|av (aq 4) aH) l=Z (decide ((n:Int)+2 >= (Si:Int)),l):=by
  rw[e];exact gH (df (bE rfl) (bE<|mq rfl rfl be) rfl rfl rfl)
 have f1:gZ (bS<|az ry (af<|az dv (aq 10)<|af<|aF<|.int 2)<|af<|bX dw<|av (aq 4) aH) (bS<|az dD (af<|dY ae 8 "left"<|G.kx ae)<|af<|dz aH) l=Z (ay,l):=by
  by_cases C:(n:Int)+2 >= (Si:Int)
  ·rw[er C]at z;have on:cj ak d=[]:=Dt λf I=>by
    let⟨a,RT,c⟩:=W.has g I;rw[h,xg];exact dS.mpr ⟨a,en.mpr (by omega),c⟩
   rw[on]at S;exact M9 z (gH<|df (bE S) (bE rfl) rfl rfl rfl)
  ·rw[eX C]at z;exact Np z
 unfold qw;exact fA ci (fA (pf (oH cl<|oH dL eq) rfl)<|fA ev<|fA (pf (oH fn fr) rfl)<|fA (pf f0 rfl)<|pf f1 rfl)
def Mf{o:aC}(aj:ak.Nodup)(d:o∈ak):(cj ak [o]).length+1=ak.length:=by
 have Sr:(o::cj ak [o]).Perm ak:=by
  refine lM.mpr λf=>?_;unfold cj;rw[rA];by_cases C:f=o
  ·subst C;rw[List.count_eq_zero.mpr ↥0,aj.count,aD d];simp
  ·rw[List.count_filter (by simp[C])];simp[eH C]
 exact Sr.length_eq
def JC{o:aC}:hG [.aO (bM [o])]=Z (bb [o]):=by
 let⟨B,Sr,a,W⟩:=Bp (Sb:=[o]) ↥0 ↥0;rw[List.perm_singleton.mp Sr]at a;exact a
def J8(bv:oO R){ae:ag}{P:List Int}{n:Int}{SE y s x w p j h d c:Option ai}(ca:0<=n)(lf:n<6):
  ∃SU cd ce ch ci cl co cr L M,uX ae R [Z (.cv<|P.map .int),Z<|aQ n,SE,y,s,x,w,p,j,h,d,c]=Z (.aL,[Z (.cv<|P.map .int),Z<|aQ n,SU,cd,ce,ch,ci,cl,co,cr,L,M]):=by
 let⟨t,cs,R5⟩:=Lz (P:=P) (n:=n) ca ⋯;let⟨H,li,db,lm,S1,al⟩:=lb (v:=9999) (i:=8) (R5.mono ⋯) ⋯ ⋯;obtain⟨i,ln,ds,dL,eq⟩:∃i:Int,i=(if H=0 then 35 else 12)/\0<i/\i<=35/\bo (.lst [.int 12,.int 35]) (aQ<|if decide (H=0)=aa then 1 else 0)=Z (aQ i):=by
  by_cases C:H=0
  ·exact⟨35,by rw[aD C],by decide,by decide,by rw[aD (er C)];rfl⟩
  ·exact⟨12,by rw[aG C],by decide,by decide,by rw[aG (by simp[C])];rfl⟩
 let⟨A,RX,ev,Sf,SM,K⟩:=Nh (v:=8000) (i:=i) (al.mono ⋯) ds dL;let⟨ak,ex,Sr,O⟩:=N0 SM;let⟨am,R8,SH,o,an,ap,fd,hR,fn⟩:=Hv (v:=7000) SM (Sf.mono ⋯);let⟨Si,RY,W,ls⟩:=KJ bv SM Sr O fd hR fn;have lv:=W.pos;have fr:=W.len;have lw:=W.le;let⟨as,mb,f0,bA,b0,a1⟩:=lb (v:=6000) (i:=(Si:Int)) (ap.mono ⋯) ⋯ ⋯;obtain⟨g,rfl⟩:∃g:Nat,as=(g:Int):=⟨as.toNat,⋯⟩;let⟨l,mo,f1,ms,m0,f2⟩:=lb (v:=5000) (i:=(Si:Int)+11) (a1.mono ⋯) ⋯ ⋯;have eM:=W.ring;have gj:=W.at (a:=g) ⋯;obtain⟨m,Q⟩:∃m,m=(range Si).map RY:=⟨_,rfl⟩;have f4:m.length=Si:=by rw[Q,bt,fQ]
 have le:=l0 m;rw[f4]at le;rw[<-Q]at eM gj;have a2:=Qj R8;obtain⟨b,f8⟩:∃b:X,b=.tup (R8.map b7):=⟨_,rfl⟩;rw[<-f8]at W eM an a2;let⟨q,rfl⟩:=R5.lst;let⟨na,rfl⟩:=al.lst;let⟨bd,rfl⟩:=Sf.lst;let⟨I,rfl⟩:=ap.lst;let⟨D,rfl⟩:=a1.lst;let⟨F,rfl⟩:=f2.lst;have ga:cy 2 (bV 2 G.nk<|av (aq 0)<|av (aq 1) aH) [Z (.cv<|P.map .int),Z<|aQ n,SE,y,s,x,w,p,j,h,d,c]=Z (.aL,[Z (.cv<|P.map .int),Z<|aQ n,Z<|.lst q,y,s,x,w,p,j,h,d,c]):=iT (eN rfl rfl rfl cs) (show 2<12 by decide) rfl;have ge:cy 3 (bV 2 G.ox<|av (aq 2)<|av (af<|az bo (af<|fO<|av (af<|aF<|.int 12)<|av (af<|aF<|.int 35) aH)<|af<|bX vInt<|av (af<|az iH (af<|bV 2 G.ek<|av (aq 2)<|av (af<|aF<|.int 8) aH)<|af<|aF<|.int 0) aH) aH) [Z (.cv<|P.map .int),Z<|aQ n,Z<|.lst q,y,s,x,w,p,j,h,d,c]=Z (.aL,[Z (.cv<|P.map .int),Z<|aQ n,Z<|.lst bd,Z<|bb RX,s,x,w,p,j,h,d,c]):=by
  exact iT (eN (dR rfl<|dR (dM<|h4 (dM rfl) (dM<|pF (dR (dM<|h4 (dM<|eN rfl rfl rfl db) rfl rfl rfl<|QJ H 0) rfl) rfl rfl) rfl rfl eq) rfl) rfl rfl ev) (show 3<12 by decide) rfl
 have gl:nf 4 5 (av (af<|bV 1 G.oF<|av (aq 3) aH)<|av (af<|bV 2 G.pb<|av (aq 2)<|av (aq 3) aH) aH) [Z (.cv<|P.map .int),Z<|aQ n,Z<|.lst bd,Z<|bb RX,s,x,w,p,j,h,d,c]=Z (.aL,[Z (.cv<|P.map .int),Z<|aQ n,Z<|.lst I,Z<|bb RX,Z<|aU ak,Z<|.im b,w,p,j,h,d,c]):=
  C5 (dR (dM<|eN rfl rfl rfl ex)<|dR (dM<|eN rfl rfl rfl an) rfl) rfl (show 4<12 by decide) (show 5<12 by decide) rfl;have go:cy 6 (bV 2 (G.nz R)<|av (aq 4)<|av (aq 5) aH) [Z (.cv<|P.map .int),Z<|aQ n,Z<|.lst I,Z<|bb RX,Z<|aU ak,Z<|.im b,w,p,j,h,d,c]=Z (.aL,[Z (.cv<|P.map .int),Z<|aQ n,Z<|.lst I,Z<|bb RX,Z<|aU ak,Z<|.im b,Z<|aU m,p,j,h,d,c]):=iT (eN rfl rfl rfl eM) (show 6<12 by decide) rfl;have gt:cy 7 (bV 2 G.ek<|av (aq 2)<|av (af<|bX dw<|av (aq 6) aH) aH) [Z (.cv<|P.map .int),Z<|aQ n,Z<|.lst I,Z<|bb RX,Z<|aU ak,Z<|.im b,Z<|aU m,p,j,h,d,c]=Z (.aL,[Z (.cv<|P.map .int),Z<|aQ n,Z<|.lst D,Z<|bb RX,Z<|aU ak,Z<|.im b,Z<|aU m,Z<|aQ g,j,h,d,c]):=
  iT (eN (dR rfl<|dR (dM<|pF rfl rfl le) rfl) rfl rfl f0) (show 7<12 by decide) rfl;have g1:=Qn (ae:=ae) (ak:=ak) (b:=b) (o:=RY g);have g2:cy 8 (pa ae (G.oe ae) 3<|av (aq 4)<|av (aq 5)<|av (af<|az bo (aq 6)<|aq 7) aH) [Z (.cv<|P.map .int),Z<|aQ n,Z<|.lst D,Z<|bb RX,Z<|aU ak,Z<|.im b,Z<|aU m,Z<|aQ g,j,h,d,c]=Z (.aL,[Z (.cv<|P.map .int),Z<|aQ n,Z<|.lst D,Z<|bb RX,Z<|aU ak,Z<|.im b,Z<|aU m,Z<|aQ g,Z<|cD ae ak b (RY g) [RY g],h,d,c]):=
  iT (G_ (dR rfl<|dR rfl<|dR (dM<|h4 rfl rfl rfl rfl gj) rfl) rfl rfl g1 rfl) (show 8<12 by decide) rfl;obtain⟨k,B⟩:∃k:aW,k=jn (Z<|.cv<|P.map .int) (Z<|aQ n) (Z<|.lst D) (Z<|bb RX) ak b m g ae (RY g) [RY g] [RY g] d c:=⟨_,rfl⟩;have g3:cy 9 (fO<|av (af<|az bo (aq 6)<|aq 7) aH) [Z (.cv<|P.map .int),Z<|aQ n,Z<|.lst D,Z<|bb RX,Z<|aU ak,Z<|.im b,Z<|aU m,Z<|aQ g,Z<|cD ae ak b (RY g) [RY g],h,d,c]=Z (.aL,k):=by
  rw[B];exact iT (GB (dR (dM<|h4 rfl rfl rfl rfl gj) rfl) rfl (pL rfl) rfl) (show 9<12 by decide) rfl
 have eG:∀(k:aW) (i:au) (N:cX) (u:ai) (o:aC) (Sb:List aC),k[8]?=Z (Z<|cD ae ak b o Sb)->k.set 8 (Z<|cD ae ak b o Sb)=k->fy.contains i=ay->N [cD ae ak b o Sb]=Z (u,[cD ae ak b o Sb])->dY ae 8 i N k=Z (u,k):=λk i N u o Sb t A am hd=>w6 (R:=fy) (E:=[aU ak,aU ak,.im b,.im<|ar o,.aO<|bM Sb,.aO []]) t am hd A;have S:k[8]?=Z (Z<|cD ae ak b (RY g) [RY g]):=by rw[B];rfl
 have T:k.set 8 (Z<|cD ae ak b (RY g) [RY g])=k:=by rw[B];rfl
 have be:az bo (aq 6) (aq 7) k=Z (.im<|ar<|RY g,k):=by rw[B];exact es gj
 have he:bS (az dD (af<|dY ae 8 "at"<|G.mf ae)<|af<|az bo (aq 6)<|aq 7) k=Z (ay,k):=gH (df (bE (eG k "at" _ _ _ _ S T ∅ Ez)) (bE be) rfl rfl<|Gv _);have hf:bS (az dD (af<|dY ae 8 "mown"<|G.l_ ae)<|af<|dz<|av (af<|az bo (aq 6)<|aq 7) aH) k=Z (ay,k):=gH (df (bE (eG k "mown" _ _ _ _ S T ∅<|ER JC)) (bE<|uc (eL (bE be) rfl) rfl (pL rfl) rfl) rfl rfl<|rL [RY g]);have lF:=CB (ae:=ae) (ak:=ak) (b:=b) (o:=RY g) (Sb:=[RY g]) ↥0 ↥0 ⋯;have hm:=l0 (cj ak [RY g]);have U:=l0 ak;have hw:=Mf W.aj (W.mem g);have h0:bS (az dD (af<|bX dw<|av (af<|dY ae 8 "left"<|G.kx ae) aH)<|af<|az hi (af<|bX dw<|av (aq 4) aH)<|af<|aF<|.int 1) k=Z (ay,k):=by
  have q:=Ni ((cj ak [RY g]).length:Int) ((ak.length:Int)-1);rw[er (show ((cj ak [RY g]).length:Int)=(ak.length:Int)-1 by lia)]at q;have ii:bX dw (av (aq 4) aH) k=Z (aQ (ak.length:Int),k):=by rw[B];exact mq rfl rfl U
  exact gH (df (bE (mq (eL (bE (eG k "left" _ _ _ _ S T ∅ lF)) rfl) rfl hm)) (bE<|df (bE ii) rfl rfl rfl rfl) rfl rfl q)
 have bi:(f3 0 l.toNat).length=l.toNat:=by rw[f3,bt,fQ]
 have nb:fm (eD RY g 1)=[RY g]:=rfl;let⟨Sl,bm,L,M,rfl⟩:=rK (Sz:=cz 10) (e:=qw ae R) (z:=f3 0 l.toNat) (λa k=>∃d c,k=jn (Z<|.cv<|P.map .int) (Z<|aQ n) (Z<|.lst F) (Z<|bb RX) ak b ((range Si).map RY) g ae (RY<|g+a) (fm<|eD RY g<|a+1) (eD RY g<|a+1) d c) (k:=jn (Z<|.cv<|P.map .int) (Z<|aQ n) (Z<|.lst F) (Z<|bb RX) ak b m g ae (RY g) [RY g] [RY g] d c) ⟨d,c,by rw[Q];rfl⟩
  (λa f k J io=>by
   let⟨d,c,rfl⟩:=io;have RT:a<l.toNat:=by
    have:=(e4.mp J).1
    rwa [bi]at this
   have it:f=.int (a:Int):=by
    unfold f3 at J;rw[dT,wz RT]at J;have:=Option.some.inj J;rw[<-this];show X.int (0+(a:Int))=_;rw[zD]
   subst it;have Y:=IE (ae:=ae) W (j:=Z (.cv<|P.map .int)) (p:=Z (aQ n)) (SE:=Z (.lst F)) (y:=Z (bb RX)) (s:=c) (g:=g) (n:=a) ⋯;exact⟨jn (Z<|.cv<|P.map .int) (Z<|aQ n) (Z<|.lst F) (Z<|bb RX) ak b ((range Si).map RY) g ae (RY<|g+a) (fm<|eD RY g<|a+1) (eD RY g<|a+1) (Z<|aQ (a:Int)) c,.aL,_,rfl,Y,.inl rfl,_,_,rfl⟩)
 rw[bi]at bm;have jp:nx l:=⟨⋯,⋯⟩;obtain⟨RW,r⟩:∃RW:aW,RW=jn (Z<|.cv<|P.map .int) (Z<|aQ n) (Z<|.lst F) (Z<|bb RX) ak b ((range Si).map RY) g ae (RY<|g+l.toNat) (fm<|eD RY g<|l.toNat+1) (eD RY g<|l.toNat+1) L M:=⟨_,rfl⟩;have kt:gz (jr<|av (af<|bV 2 G.ek<|av (aq 2)<|av (af<|az dv (af<|bX dw<|av (aq 4) aH)<|af<|aF<|.int 11) aH) aH) (cz 10) (G.qw ae R) k=Z (.aL,RW):=by
  rw[fr]at U;rw[B,r];exact tP (tb (dR (dM<|eN (dR rfl<|dR (dM<|h4 (dM<|pF rfl rfl U) rfl rfl rfl rfl) rfl) rfl rfl f1) rfl) rfl jp) bm rfl
 have bn:RW[8]?=Z (Z<|cD ae ak b (RY<|g+l.toNat)<|fm<|eD RY g<|l.toNat+1):=by rw[r];rfl
 have bs:RW.set 8 (Z<|cD ae ak b (RY<|g+l.toNat)<|fm<|eD RY g<|l.toNat+1)=RW:=by rw[r];rfl
 have kw:bS (az dD (af<|dY ae 8 "field"<|G.oz ae)<|aq 4) RW=Z (ay,RW):=gH (df (bE (eG RW "field" _ _ _ _ bn bs ∅ HM)) (by rw[r];rfl) rfl (by rw[r];rfl)<|rL ak);have lc:bS (az dD (af<|dY ae 8 "tree"<|G.nV ae)<|aq 5) RW=Z (ay,RW):=gH (df (bE (eG RW "tree" _ _ _ _ bn bs ∅ K7)) (by rw[r];rfl) rfl (by rw[r];rfl) a2);refine⟨_,_,_,_,_,_,_,_,_,_,(?_:_=Z (.aL,RW)).trans (by rw[r])⟩;unfold uX;exact fA ga (fA ge<|fA gl<|fA go<|fA gt<|fA g2<|fA g3<|fA (pf (oH he<|oH hf h0) rfl)<|fA kt<|pf (oH kw lc) rfl)
def HR(ae:ag)(p:oO R)(P:List Int)(t:P.length<100000):∃cj,pd ae R [.cv (P.map .int)]=Z (.im<|.aN aa,cj):=by
 let⟨Sl,q,o,SE,y,b,d,w,g,h,i,j,l,rfl⟩:=rK (Sz:=cz 1) (e:=uX ae R) (z:=f3 0 3) (λa k=>∃o SE y b d w g h i j l,k=[Z (.cv<|P.map .int),o,SE,y,b,d,w,g,h,i,j,l]) (k:=[Z (.cv<|P.map .int),V,V,V,V,V,V,V,V,V,V,V]) ⟨_,_,_,_,_,_,_,_,_,_,_,rfl⟩
  (λa f k m r=>by
   let⟨o,SE,y,b,d,w,g,h,i,j,l,rfl⟩:=r;have RT:a<3:=by
    have:=(e4.mp m).1
    rwa [f3,bt,fQ]at this
   have s:f=.int (a:Int):=by
    unfold f3 at m;rw[dT,wz RT]at m;have:=Option.some.inj m;rw[<-this];show X.int (0+(a:Int))=_;rw[zD]
   subst s;let⟨SU,u,v,x,A,B,C,D,E,F,c⟩:=J8 p (ae:=ae) (P:=P) (n:=(a:Int)) (SE:=SE) (y:=y) (s:=b) (x:=d) (w:=w) (p:=g) (j:=h) (h:=i) (d:=j) (c:=l) ⋯ ⋯;exact⟨[Z (.cv<|P.map .int),Z<|aQ (a:Int),SE,y,b,d,w,g,h,i,j,l],.aL,_,rfl,c,.inl rfl,_,_,_,_,_,_,_,_,_,_,_,rfl⟩)
 unfold pd Ew;exact⟨_,ja rfl (fA (tP (tb (eL (bE rfl) rfl) rfl ⟨by decide,by decide⟩) q rfl)<|fB rfl) rfl⟩
end G
namespace L2
end L2
set_option maxHeartbeats 4000000
namespace K52
open L2 PyProof.Rows
variable{l F:ag}{p:gN}{n:Nat}{O:bf}
def dW(a:Nat):bI:=(PySem.Challenge.pw_mowfloor_k52_round_and_round.main.body.getD a (.Pass ⟨0,0,0,0⟩))
structure e9(aE:au->Option ab):Prop where
 OI:aE "dict" = V
 En:aE "int" = V
 hV:aE "len" = V
 Mj:aE "max" = V
 MV:aE "min" = V
 tG:aE "range" = V
 NS:aE "set" = V
 qE:aE "sorted" = V
 mu:aE "tuple" = V
 xT:∃y,aE "SIDE" = Z (.int 2 y)
structure j8(Q:Φ)(aE:au->Option ab)(ae:ag):Prop where
 c:gx Q ae
 m:aE "Going" = Z (.ref ae)
 sV:eE Q ae "first"
 my:eE Q ae "ground"
 qV:eE Q ae "branches"
 lL:eE Q ae "place"
 nJ:eE Q ae "over"
 wJ:eE Q ae "taken"
def Kn:gm "dict" = Z (.type "dict"):=by decide +kernel
def Ek:gm "int" = Z (.type "int"):=by decide +kernel
def hA:gm "len" = Z (.builtin "len"):=by decide +kernel
def NK:gm "max" = Z (.builtin "max"):=by decide +kernel
def JX:gm "min" = Z (.builtin "min"):=by decide +kernel
def sS:gm "sorted" = Z (.builtin "sorted"):=by decide +kernel
def lr:gm "tuple" = Z (.type "tuple"):=by decide +kernel
def cT(a:dd n O):O.units+20<bD:=by have:=a.un;omega
def CD(a:dd n O):O.units+30<bD:=by have:=a.un;omega
abbrev ua:bI:=dW 32
abbrev Mn:List au:=["_law_script","_law_turn","_law_seed","_law_cell","_law_bound"]
abbrev tm:bI:=dW 33
abbrev Hd:List au:=["_law_left_here","_law_many","_law_digit","_law_mixed"]
abbrev wW:bI:=dW 34
abbrev OM:List au:=["_law_block"]
abbrev t2:bI:=dW 35
abbrev Jy:List au:=["_law_left_here","_law_most","_law_at","_law_to","_law_some","_law_k","_law_other"]
abbrev xF:bI:=dW 16
abbrev Rd:List au:=["field","cell"]
abbrev x5:bI:=dW 20
abbrev JZ:List au:=["cell","way","many"]
abbrev xy:bI:=dW 5
abbrev Kq:List au:=["one","other"]
abbrev rE:bI:=dW 21
abbrev L1:List au:=["field","tree","cell","block","ways"]
abbrev sm:bI:=dW 22
abbrev I3:List au:=["field","tree","walk"]
abbrev va:bI:=lx (dW 30) 0
abbrev MO:List au:=["self","field","tree","start"]
abbrev tJ:bI:=dW 36
abbrev MD:List au:=["_law_some","_law_cells_here","_law_row","_law_column"]
abbrev rD:bI:=dW 37
abbrev Du:List au:=["_law_left_here","_law_some","_law_pairs","_law_block","_law_group","_law_tree_here","_law_k","_law_one","_law_other","_law_old"]
abbrev ux:bI:=lx (dW 30) 2
abbrev Lg:List au:=["self"]
abbrev tB:bI:=lx (dW 30) 3
abbrev Ir:List au:=["self"]
abbrev vO:bI:=dW 6
abbrev KD:List au:=["things","found","thing"]
abbrev px:bI:=dW 28
abbrev Gy:List au:=["things","others","known"]
abbrev u6:bI:=lx (dW 30) 6
abbrev Nb:List au:=["self"]
abbrev ue:bI:=lx (dW 30) 4
abbrev Kj:List au:=["self"]
abbrev r2:bI:=lx (dW 30) 5
abbrev KQ:List au:=["self"]
abbrev uq:bI:=lx (dW 30) 1
abbrev PD:List au:=["self"]
abbrev uR:bI:=lx (dW 30) 7
abbrev LY:List au:=["self"]
abbrev uY:bI:=dW 38
abbrev BM:List au:=["_law_script","_law_turn","_law_left_here","_law_some","_law_field","_law_tree_here","_law_row","_law_at","_law_going","_law_over","_law_k","_law_due"]
section
variable{R4:bp}{H:a7}{Q:Φ}{aE:au->Option ab}{R7:aV}
abbrev IH(p:gN)(F:ag):Prop:=h3 p 1 "_law_left" ua F ["_law_script","_law_turn"] 2 G.nk
def Of(N:f5 p.K p.aE "_law_left" ua F ["_law_script","_law_turn"])(R8:e9 p.aE):IH p F:=by
 refine hC Mn N λaj P O SS h j RW a=>?_;exact (cu (e2 2 aj<|km fo br<|cE jS br<|aK 1) (cu (ll (SO:=[0,1]) jZ rfl (mi<|bw<|EU (aK 0) Ee<|Fl me) (jK 3 aj) (c2<|e2 2 aj<|km ic (cE fo (cE fo (cE jS (aK 2) br)<|cE ic (aK 3) br) br) br) ∅ LB) (cu (e2 3 aj<|z7 (e3 Cf (bw<|fT hS R8.hV hA<|cG<|aK 0) br<|fD _) (o6 a (aK 0)<|cE ic (aK 1)<|bw<|fT hS R8.hV hA<|cG<|aK 0) me) (cu (e2 4 aj<|km jS (cE jS (cE uI br br)<|cE uI br br)<|cE uI br br) (c2 (d7 (ko (by exact (ky (cE jS (cE ic (aK 3)<|aK 4)<|bw<|i8 F2 rfl R8.En Ek<|cG<|bw<|Ai BS (aK 3) (cE uI br br)<|fD _) (aK 2) br)))))))))
abbrev vr(p:gN)(F:ag):Prop:=h3 p 1 "_law_pick" tm F ["_law_left_here","_law_many"] 2 G.ek
def NF(N:f5 p.K p.aE "_law_pick" tm F ["_law_left_here","_law_many"])(R8:e9 p.aE):vr p F:=by
 refine hC Hd N λaj P O SS h j RW a=>?_;exact (cu (kq (e3 Cf (de a (aK 0) br) br<|fD _) (cu (e2 2 aj<|km ic (de a (aK 0) br)<|aK 1)<|cu (mM (km zX (de a (aK 0) br)<|aK 1)<|q0 (cn 0) me<|yx<|cT a)<|c2<|d7<|jt<|cn 2) jH)<|cu (mM (km fo (de a (aK 0) br) br)<|q0 (cn 0) me<|yx<|cT a)<|cu (e2 3 aj<|km ic (cE jS (cE fo (de a (aK 0) br)<|cE jS (de a (aK 0) br) br) br) br)<|cu (mM (km ic (cE jS (aK 3)<|cE fo (cE ic (aK 3) br) br) br)<|q0 (cn 0) me<|yx<|cT a)<|c2<|d7<|km ic (cE zX (de a (aK 0) br) br)<|aK 1)
abbrev ya(p:gN)(F:ag):Prop:=h3 p 1 "_law_next_to" wW F ["_law_block"] 1 G.kF
def L8(N:f5 p.K p.aE "_law_next_to" wW F ["_law_block"])(R8:e9 p.aE):ya p F:=by
 refine hC OM N λaj P O SS h j RW a=>?_;exact (c2 (d7 (ko (by exact (q7 (hW (by exact (dc (cE la (de a (aK 0) br) br)<|de a (aK 0) br))) (by exact (ky (hW (by exact (dc (de a (aK 0) br)<|cE la (de a (aK 0) br) br))) (hW (by exact (dc (de a (aK 0) br)<|cE fo (de a (aK 0) br) br))) (hW (by exact (dc (cE fo (de a (aK 0) br) br)<|de a (aK 0) br))))))))))
abbrev IG(p:gN)(F:ag):Prop:=h3 p 2 "_law_blocks" t2 F ["_law_left_here","_law_most"] 2 G.ox
def LF(N:f5 p.K p.aE "_law_blocks" t2 F ["_law_left_here","_law_most"])(R8:e9 p.aE){d:ag}(c:vr p d){e:ag}(f:ya p e):IG p F:=by
 refine hC Jy N λaj P O SS h j RW b=>?_;exact (cu (Am (a:=2) (r:=3) rfl aj rfl rfl ∅ rfl rfl (dc (bw<|el c b<|dc (aK 0) br)<|bw<|el c b<|dc (aK 0) br) ∅ ∅ rfl) (cu (e2 4 aj (ko (by exact (cG (hW (by exact (dc (cE fo br<|aK 2)<|cE fo br<|aK 3))))))) (cu (ll (SO:=[0,1]) jZ rfl (sl rfl R8.tG<|cG<|bw<|el c b<|dc (aK 0)<|aK 1) (jK 5 aj) (cu (e2 6 aj<|o6 b (bw<|el f b<|cG<|de b (aK 4)<|bw<|el c b<|dc (aK 0)<|bw<|fT hS R8.hV hA<|cG<|aK 4)<|bw<|el c b<|dc (aK 0) br)<|c2<|kq (hQ.pw<|vT (e3 (vN<|cT b) (aK 6) (aK 4) rfl)<|vT (Cu sG sG br (de b (aK 6) br) br)<|DQ<|Cu sG sG br (de b (aK 6) br) br) (c2<|pK<|mV mw nc s8 uB tH (cn 4)<|cG<|aK 6) jH) ∅ uQ)<|c2<|d7<|fT (r6 rfl<|cT b) R8.qE sS<|cG<|aK 4)))
abbrev ES(p:gN)(F:ag):Prop:=h3 p 1 "block_of" xF F ["field","cell"] 2 G.p4
def Pr(N:f5 p.K p.aE "block_of" xF F ["field","cell"])(R8:e9 p.aE):ES p F:=by
 refine hC Rd N λaj P O SS h j RW a=>?_;exact (c2 (d7 (oW (by exact (dc (cE la (de a (aK 1) br)<|cE ic (cE la (de a (aK 1) br)<|de a (de a (aK 0) br) br)<|bw<|wB rfl R8.xT.choose_spec)<|cE la (de a (aK 1) br)<|cE ic (cE la (de a (aK 1) br)<|de a (de a (aK 0) br) br)<|bw<|wB rfl R8.xT.choose_spec)))))
abbrev Gd(p:gN)(R:dq)(F:ag):Prop:=h3 p 1 "moved" x5 F ["cell","way","many"] 3 (G.kI R)
def Km(N:f5 p.K p.aE "moved" x5 F ["cell","way","many"])(R8:e9 p.aE){R:dq}(cY:kL p.K p.P p.w R.kt R.b_)(b:p.aE "WAYS" = Z (.ref R.gj)):Gd p R F:=by
 refine hC JZ N λaj P O SS h j RW a=>?_;exact (c2 (d7 (oW (by exact (dc (cE fo (bw<|ie (iz (cT a) cY) (aK 0) br<|λ_ W=>rfl)<|cE jS (bw<|ie (iz (cT a) cY) (aK 1) br<|λ_ W=>rfl)<|aK 2)<|cE fo (bw<|ie (iz (cT a) cY) (aK 0) br<|λ_ W=>rfl)<|cE jS (bw<|ie (iz (cT a) cY) (aK 1) br<|λ_ W=>rfl)<|aK 2)))))
abbrev Er(p:gN)(F:ag):Prop:=h3 p 1 "lesser_first" xy F ["one","other"] 2 G.qC
def Li(N:f5 p.K p.aE "lesser_first" xy F ["one","other"])(R8:e9 p.aE):Er p F:=by
 refine hC Kq N λaj P O SS h j RW a=>?_;exact (c2 (d7 (oW (by exact (dc (bw<|fT (Nq rfl<|cT a) R8.MV JX<|dc (aK 0)<|aK 1)<|bw<|fT (LL rfl<|cT a) R8.Mj NK<|dc (aK 0)<|aK 1)))))
abbrev GC(p:gN)(R:dq)(F:ag):Prop:=h3 p 2 "next_round" rE F ["field","tree","cell"] 3 (G.hY R)
def KV(N:f5 p.K p.aE "next_round" rE F ["field","tree","cell"])(R8:e9 p.aE){R:dq}(cY:kL p.K p.P p.w R.kt R.b_)(c:p.aE "WAYS" = Z (.ref R.gj)){d:ag}(e:ES p d){f:ag}(g:Er p f){i:ag}(b:Gd p R i):GC p R F:=by
 refine hC L1 N λaj P O SS h j RW a=>?_;exact (cu (e2 3 aj<|el e a<|dc (aK 0)<|aK 2) (cu (e2 4 aj (ie (iz (cT a) cY) (bw<|Pb rfl c) (hW (by exact (dc (cE la (bw<|ie (iz (cT a) cY) (aK 2) br<|λ_ W=>rfl)<|bw<|ie (iz (cT a) cY) (aK 3) br<|λ_ W=>rfl)<|cE la (bw<|ie (iz (cT a) cY) (aK 2) br<|λ_ W=>rfl)<|bw<|ie (iz (cT a) cY) (aK 3) br<|λ_ W=>rfl)))<|λ_ W=>rfl))<|cu (kq (e3 (DM<|cT a) (bw<|el g a<|dc (aK 3)<|bw<|el b a<|ky (aK 3) (bw<|ie (iz (cT a) cY) (aK 4) br<|λ_ W=>rfl)<|bw<|wB rfl R8.xT.choose_spec) (aK 1) rfl) (c2<|d7<|el b a<|ky (aK 2) (bw<|ie (iz (cT a) cY) (aK 4) br<|λ_ W=>rfl) br) jH)<|c2<|d7<|el b a<|ky (aK 2) (bw<|ie (iz (cT a) cY) (aK 4) br<|λ_ W=>rfl) br))
abbrev IJ(p:gN)(R:dq)(F:ag):Prop:=h3 p 3 "ring" sm F ["field","tree"] 2 (G.nz R)
def NV(N:f5 p.K p.aE "ring" sm F ["field","tree"])(R8:e9 p.aE){R:dq}(cY:kL p.K p.P p.w R.kt R.b_)(d:p.aE "WAYS" = Z (.ref R.gj)){b:ag}(c:GC p R b):IJ p R F:=by
 refine hC I3 N λaj P O SS h j RW a=>?_;exact (cu (e2 2 aj (ko (by exact (cG<|de a (aK 0) br))))<|cu (H9 1000000 jZ (e3 MT (bw<|fT hS R8.hV hA<|cG<|aK 2) (bw<|fT hS R8.hV hA<|cG<|aK 0)<|fD _)<|c2<|pK<|mV mw nc s8 uB tH (cn 2)<|cG<|bw<|el c a<|ky (aK 0) (aK 1)<|de a (aK 2)<|bw<|Ko me)<|c2<|d7<|i8 mj rfl R8.mu lr<|cG<|aK 2)
def Og(a:j8 Q aE l)(N:i2 (k9 Q l F) Q "__init__" "Going.__init__" va F ["self","field","tree","start"])(R8:e9 aE):
  fS (k9 Q l F) R4 H Q aE R7 1 "__init__" "Going.__init__" va F ["self","field","tree","start"] 4 (G.oe l):=by
 refine lV MO N λaj P O SS h j RW b=>?_;exact (cu (nH 0 a.c a.sV (cn 0)<|jt<|cn 1)<|cu (nH 1 a.c a.my (cn 0)<|jt<|cn 1)<|cu (nH 2 a.c a.qV (cn 0)<|jt<|cn 2)<|cu (nH 3 a.c a.lL (cn 0)<|jt<|cn 3)<|cu (nH 4 a.c a.nJ (cn 0)<|OV (cT b) (jt<|cn 3) jL)<|c2<|nH 5 a.c a.wJ (cn 0) Ap)
abbrev HW(p:gN)(F:ag):Prop:=h3 p 1 "_law_cells" tJ F ["_law_some"] 1 G.oF
def HJ(N:f5 p.K p.aE "_law_cells" tJ F ["_law_some"])(R8:e9 p.aE):HW p F:=by
 refine hC MD N λaj P O SS h j RW a=>?_;exact (cu (e2 1 aj (ko (by exact oN))) (cu (ll (SO:=[0]) jZ rfl (mi<|aK 0) (zk (jK 2 aj)<|jK 3 aj) (c2 (pK (mV mw nc AX Eb CA (cn 1) (cG (bw (ko (by exact (q7 (hW (by exact (dc (aK 2)<|aK 3))) (by exact (ky (hW (by exact (dc (aK 2)<|cE fo (aK 3) br))) (hW (by exact (dc (cE fo (aK 2) br)<|aK 3))) (hW (by exact (dc (cE fo (aK 2) br)<|cE fo (aK 3) br))))))))))))) ∅ (yP ∅))<|c2<|d7<|i8 mj rfl R8.mu lr<|cG<|bw<|fT (r6 rfl<|cT a) R8.qE sS<|cG<|aK 1))
abbrev I8(p:gN)(F:ag):Prop:=h3 p 2 "_law_tree" rD F ["_law_left_here","_law_some"] 2 G.pb
def HV(N:f5 p.K p.aE "_law_tree" rD F ["_law_left_here","_law_some"])(R8:e9 p.aE){d:ag}(e:ya p d){f:ag}(g:vr p f):I8 p F:=by
 refine hC Du N λaj P O SS h j RW b=>?_;exact (cu (e2 2 aj (ko (by exact oN))) (cu (M0 (SO:=[0,1]) jZ rfl (aK 1) (tL (a:=3) aj rfl (Or.inr rfl) ∅) (c2 (pK (mV mw nc AX Eb CA (cn 2) (cG (bw (uL (own:=["_law_other"]) (SF:=[1,3]) rfl (u1 (dn rD) Du (by decide +kernel)) ∅ (mi<|bw<|EU (bw<|el e b<|cG<|aK 3) (Fl me) Ee) (λc=>(uh 0)) (λc=>(yy<|e3 (DM<|cT b) (aK 0) (aK 1) rfl)) (λc=>(oW (by exact (dc (aK 2)<|aK 0)))))))))) ∅ ∅) (cu (e2 4 aj (i8 (G9 rfl<|CD b) rfl R8.OI Kn (cG (bw (NZ ["_law_block"] [] (mi<|aK 1) (λc=>(uh 0)) (λc=>(oW (by exact (dc (aK 0)<|aK 0))))))))) (cu (e2 5 aj (ko (by exact oN))) (cu (ll (SO:=[0,1]) jZ rfl (sl rfl R8.tG<|cG<|bw<|fT hS R8.hV hA<|cG<|aK 2) (jK 6 aj) (cu (mM (mV mw nc PySem.F.slot_list_pop PySem.F.type_list_pop Qa (cn 2)<|cG<|bw<|el g b<|dc (aK 0)<|bw<|fT hS R8.hV hA<|cG<|aK 2)<|zk (jK 7 aj)<|jK 8 aj) (c2 (kq (e3 (iu<|cT b) (de b (aK 4)<|aK 7) (de b (aK 4)<|aK 8)<|fD _) (cu (e2 9 aj<|o6 b (aK 4)<|aK 8) (cu (ll (SO:=[0,1]) jZ rfl (mi<|aK 1) (tL (a:=3) aj rfl (Or.inr rfl) ∅) (c2<|mM (z7 (e3 (Bk<|cT b) (de b (aK 4)<|aK 3) (aK 9)<|fD _) (o6 b (aK 4)<|aK 7)<|o6 b (aK 4)<|aK 3)<|q0 (cn 4) (jt<|cn 3)<|w8<|cT b) ∅ (yP ∅)) (c2 (pK (mV mw nc s8 uB tH (cn 5) (cG (hW (by exact (dc (aK 7)<|aK 8))))))))) jH))) ∅ uQ)<|c2<|d7<|i8 mj rfl R8.mu lr<|cG<|bw<|fT (r6 rfl<|cT b) R8.qE sS<|cG<|aK 5)))))
def Pt(a:j8 Q aE l)(N:i2 (dG Q l "at" F) Q "at" "Going.at" ux F ["self"])(R8:e9 aE):
  fS (dG Q l "at" F) R4 H Q aE R7 1 "at" "Going.at" ux F ["self"] 1 (G.mf l):=by
 refine lV Lg N λaj P O SS h j RW b=>?_;exact (c2<|d7<|j7 3 a.c a.lL<|cn 0)
def G3(a:j8 Q aE l)(N:i2 (dG Q l "mown" F) Q "mown" "Going.mown" tB F ["self"])(R8:e9 aE):
  fS (dG Q l "mown" F) R4 H Q aE R7 1 "mown" "Going.mown" tB F ["self"] 1 (G.l_ l):=by
 refine lV Ir N λaj P O SS h j RW b=>?_;exact (c2<|d7<|i8 mj rfl R8.mu lr<|cG<|bw<|K6 4 (r6 rfl<|cT b) rfl R8.qE sS a.c a.nJ<|cn 0)
abbrev DH(p:gN)(F:ag):Prop:=h3 p 1 "lookup" vO F ["things"] 1 G.l3
def Kd(N:f5 p.K p.aE "lookup" vO F ["things"])(R8:e9 p.aE):DH p F:=by
 refine hC KD N λaj P O SS h j RW a=>?_;exact (cu (e2 1 aj Ap) (cu (ll (SO:=[0]) jZ rfl (Q4 (mi<|aK 0)<|PV<|aK 0) (jK 2 aj) (c2<|mM jL<|q0 (cn 1) (jt<|cn 2)<|w8<|cT a) ∅ (Om (yP ∅) Ng))<|c2<|d7<|jt<|cn 1))
abbrev PK(p:gN)(F:ag):Prop:=h3 p 2 "not_in" px F ["things","others"] 2 G.jm
def Nt(N:f5 p.K p.aE "not_in" px F ["things","others"])(R8:e9 p.aE){d:ag}(e:DH p d):PK p F:=by
 refine hC Gy N λaj P O SS h j RW b=>?_;exact (cu (yr (a:=2) aj rfl (Or.inr rfl) (el e b<|cG<|aK 1) ∅) (c2 (d7 (uL (own:=["thing"]) (SF:=[2]) rfl (u1 (dn px) Gy (by decide +kernel)) ∅ (mi<|aK 0) (λc=>(uh 0)) (λc=>(yy<|e3 (vN<|cT b) (aK 0) (aK 1) rfl))<|λc=>(jt<|cn 0)))))
def P5(a:j8 Q aE l){b:ag}(d:fJ R4 H Q aE R7 2 "not_in" px b ["things","others"] 2 G.jm)(N:i2 (dG Q l "left" F) Q "left" "Going.left" u6 F ["self"])(R8:e9 aE):
  fS (dG Q l "left" F) R4 H Q aE R7 3 "left" "Going.left" u6 F ["self"] 1 (G.kx l):=by
 refine lV Nb N λaj P O SS h j RW e=>?_;exact (c2<|d7<|i8 mj rfl R8.mu lr<|cG<|bw<|Fi 4 d e rfl (bw<|j7 1 a.c a.my<|cn 0) a.c a.nJ<|cn 0)
def Oh(a:j8 Q aE l)(N:i2 (dG Q l "field" F) Q "field" "Going.field" ue F ["self"])(R8:e9 aE):
  fS (dG Q l "field" F) R4 H Q aE R7 1 "field" "Going.field" ue F ["self"] 1 (G.oz l):=by
 refine lV Kj N λaj P O SS h j RW b=>?_;exact (c2<|d7<|j7 1 a.c a.my<|cn 0)
def PU(a:j8 Q aE l)(N:i2 (dG Q l "tree" F) Q "tree" "Going.tree" r2 F ["self"])(R8:e9 aE):
  fS (dG Q l "tree" F) R4 H Q aE R7 1 "tree" "Going.tree" r2 F ["self"] 1 (G.nV l):=by
 refine lV KQ N λaj P O SS h j RW b=>?_;exact (c2<|d7<|j7 2 a.c a.qV<|cn 0)
def LU(a:j8 Q aE l){R:dq}(cY:kL Q R4 H R.kt R.b_)(f:aE "WAYS" = Z (.ref R.gj)){d:ag}(e:fJ R4 H Q aE R7 2 "next_round" rE d ["field","tree","cell"] 3 (G.hY R))(N:i2 (dG Q l "step" F) Q "step" "Going.step" uq F ["self"])(R8:e9 aE):
  fS (dG Q l "step" F) R4 H Q aE R7 3 "step" "Going.step" uq F ["self"] 1 (G.m4 l R):=by
 refine lV PD N λaj P O SS h j RW b=>?_;exact (cu (nH 3 a.c a.lL (cn 0)<|el e b<|ky (bw<|j7 1 a.c a.my<|cn 0) (bw<|j7 2 a.c a.qV<|cn 0)<|bw<|j7 3 a.c a.lL<|cn 0)<|cu (mM jL<|K3 4 3 (w8<|cT b) a.c a.nJ a.lL (cn 0)<|cn 0)<|c2<|d7<|j7 3 a.c a.lL<|cn 0)
def LR(a:j8 Q aE l){e:ag}(b:fJ R4 H Q aE R7 2 "not_in" px e ["things","others"] 2 G.jm)(N:i2 (dG Q l "lost" F) Q "lost" "Going.lost" uR F ["self"])(R8:e9 aE):
  fS (dG Q l "lost" F) R4 H Q aE R7 3 "lost" "Going.lost" uR F ["self"] 1 (G.oo l):=by
 refine lV LY N λaj P O SS h j RW d=>?_;exact (c2<|d7<|i8 mj rfl R8.mu lr<|cG<|bw<|el b d<|dc (bw<|Fi 4 b d rfl (bw<|j7 0 a.c a.sV<|cn 0) a.c a.nJ<|cn 0)<|bw<|j7 1 a.c a.my<|cn 0)
def OJ(N:f5 Q aE "law" uY F ["_law_script"])(R8:e9 aE){l:ag}(d:j8 Q aE l){R:dq}(cY:kL Q R4 H R.kt R.b_)(as:aE "WAYS" = Z (.ref R.gj)){y:ag}(z:fJ R4 H Q aE R7 1 "_law_left" ua y ["_law_script","_law_turn"] 2 G.nk){A:ag}(B:fJ R4 H Q aE R7 2 "_law_blocks" t2 A ["_law_left_here","_law_most"] 2 G.ox){C:ag}(e:fJ R4 H Q aE R7 1 "_law_pick" tm C ["_law_left_here","_law_many"] 2 G.ek){D:ag}(E:fJ R4 H Q aE R7 2 "_law_tree" rD D ["_law_left_here","_law_some"] 2 G.pb){I:ag}(J:fJ R4 H Q aE R7 1 "_law_cells" tJ I ["_law_some"] 1 G.oF){L:ag}(M:fJ R4 H Q aE R7 3 "ring" sm L ["field","tree"] 2 (G.nz R)){g:ag}(S:fS (k9 Q l g) R4 H Q aE R7 1 "__init__" "Going.__init__" va g ["self","field","tree","start"] 4 (G.oe l)){k:ag}(n:fS (dG Q l "at" k) R4 H Q aE R7 1 "at" "Going.at" ux k ["self"] 1 (G.mf l)){o:ag}(q:fS (dG Q l "mown" o) R4 H Q aE R7 1 "mown" "Going.mown" tB o ["self"] 1 (G.l_ l)){s:ag}(f:fS (dG Q l "left" s) R4 H Q aE R7 3 "left" "Going.left" u6 s ["self"] 1 (G.kx l)){T:ag}(U:fJ R4 H Q aE R7 2 "next_round" rE T ["field","tree","cell"] 3 (G.hY R)){t:ag}(al:fS (dG Q l "step" t) R4 H Q aE R7 3 "step" "Going.step" uq t ["self"] 1 (G.m4 l R)){u:ag}(am:fS (dG Q l "lost" u) R4 H Q aE R7 3 "lost" "Going.lost" uR u ["self"] 1 (G.oo l)){v:ag}(an:fS (dG Q l "field" v) R4 H Q aE R7 1 "field" "Going.field" ue v ["self"] 1 (G.oz l)){w:ag}(ap:fS (dG Q l "tree" w) R4 H Q aE R7 1 "tree" "Going.tree" r2 w ["self"] 1 (G.nV l)):
  fJ R4 H Q aE R7 4 "law" uY F ["_law_script"] 1 (G.pd l R):=by
 refine hC BM N λaj P O SS h j RW b=>?_;exact (cu (ll (SO:=[0]) jZ rfl (sl rfl R8.tG<|cG br) (jK 1 aj) (cu (e2 2 aj<|el z b<|dc (aK 0)<|aK 1) (cu (e2 3 aj (el B b (dc (aK 2) (de b (bw (ko (by exact (dc br br))))<|bw<|i8 F2 rfl R8.En Ek<|cG<|bw<|Ai (Bk<|cT b) (bw<|el e b<|dc (aK 2) br) br<|fD _)))) (cu (Am (a:=4) (r:=5) rfl aj rfl rfl ∅ rfl rfl (dc (bw<|el J b<|cG<|aK 3)<|bw<|el E b<|dc (aK 2)<|aK 3) ∅ ∅ rfl) (cu (e2 6 aj<|el M b<|dc (aK 4)<|aK 5) (cu (e2 7 aj<|el e b<|dc (aK 2)<|bw<|fT hS R8.hV hA<|cG<|aK 6) (cu (e2 8 aj<|Pa S b rfl d.m<|ky (aK 4) (aK 5)<|de b (aK 6)<|aK 7) (cu (yr (a:=9) aj rfl (Or.inr rfl) (ko (by exact (cG<|de b (aK 6)<|aK 7))) ∅) (cu (kq (hQ.pw (oU (e3 (iu<|cT b) (bw<|jq d.c n b<|cn 8) (de b (aK 6)<|aK 7)<|fD _) (oU (e3 (iu<|cT b) (bw<|jq d.c q b<|cn 8) (hW (by exact (cG<|de b (aK 6)<|aK 7)))<|fD _)<|tI<|e3 (iu<|cT b) (bw<|fT hS R8.hV hA<|cG<|bw<|jq d.c f b<|cn 8) (cE la (bw<|fT hS R8.hV hA<|cG<|aK 4) br)<|fD _))) (c2<|d7 jL) jH) (cu (ll (SO:=[0]) jZ rfl (sl rfl R8.tG<|cG<|bw<|el e b<|dc (aK 2)<|cE fo (bw<|fT hS R8.hV hA<|cG<|aK 4) br) (jK 10 aj) (cu (e2 11 aj<|el U b<|ky (aK 4) (aK 5)<|de b (aK 6)<|cE ic (cE fo (aK 7)<|aK 10)<|bw<|fT hS R8.hV hA<|cG<|aK 6) (cu (kq (hQ.pw<|oU (e3 (iu<|cT b) (aK 11) (de b (aK 6)<|cE ic (cE fo (cE fo (aK 7)<|aK 10) br)<|bw<|fT hS R8.hV hA<|cG<|aK 6)<|fD _)<|oU (e3 (iu<|cT b) (bw<|jq d.c al b<|cn 8) (aK 11)<|fD _)<|tI<|e3 (iu<|cT b) (bw<|jq d.c n b<|cn 8) (aK 11)<|fD _) (c2<|d7 jL) jH) (cu (pK<|mV mw nc s8 uB tH (cn 9)<|cG<|aK 11) (cu (kq (hQ.pw (oU (e3 (iu<|cT b) (bw<|jq d.c q b<|cn 8) (bw<|i8 mj rfl R8.mu lr<|cG<|bw<|OG (CD b) rfl R8.qE rfl R8.NS<|cG<|aK 9)<|fD _) (tI (e3 (iu<|cT b) (bw<|jq d.c am b<|cn 8) (hW (by exact oN))<|fD _)))) (c2<|d7 jL) jH) (cu (kq (e3 (iu<|cT b) (bw<|jq d.c f b<|cn 8) (bw (i8 mj rfl R8.mu lr (cG (bw (uL (own:=["_law_cell"]) (SF:=[9]) rfl (u1 (dn uY) BM (by decide +kernel)) ∅ (mi<|aK 4) (λx=>(uh 0)) (λx=>(yy<|e3 (vN<|cT b) (aK 0) (aK 1) rfl))<|λx=>(jt<|cn 0))))))<|fD _) (c2<|d7 jL) jH) (c2 (kq (hQ.pw (vT (e3 BS (cE fo (aK 10) br) (bw<|fT hS R8.hV hA<|cG<|aK 4)<|fD _) (DQ (e3 (iu<|cT b) (bw<|jq d.c f b<|cn 8) (hW (by exact oN))<|fD _)))) (c2<|d7 jL) jH))))))) ∅ uQ)<|c2<|kq (hQ.pw<|oU (e3 (iu<|cT b) (bw<|jq d.c an b<|cn 8) (aK 4)<|fD _)<|tI<|e3 (iu<|cT b) (bw<|jq d.c ap b<|cn 8) (aK 5)<|fD _) (c2<|d7 jL) jH))))))))) ∅ uQ)<|c2<|d7 jL)
end
end K52
namespace L2
open Spec PyProof.Rows
section
variable{Q:Φ}
variable{g:ag}{x:Option ag}{v:Nat}{h:Array (Option ab)}
def kpm{a r:Int}{y I:gJ}(d:Q.lookup g=Z ⟨.type "tuple",x,.seq #[.int a y,.int r I] v,h⟩):gn Q g a r:=⟨_,_,_,_,_,d⟩
def krm{f D:ag}(d:Q.lookup g=Z ⟨.type "tuple",x,.seq #[.ref f,.ref D] v,h⟩):mL Q g f D:=⟨_,_,_,d⟩
end
end L2
namespace K52
open L2 PyProof.Rows
variable{J:PySem.W.OpenLaw}
def all_mk{H:a7}{Q:Φ}{d:aV}{aE:au->Option ab}{i z A B C D E F I L j M N k m O P n o q r t S:ag}(b:Q.In d)(a:d.Ns d1 aE)(T:aE "law" = Z (.ref i)){l:ag}(U:Ξ Q d1 "Going" = Z (Z<|.ref l))(al:gx Q l)(sV:eE Q l "first")(my:eE Q l "ground")(qV:eE Q l "branches")(lL:eE Q l "place")(nJ:eE Q l "over")(wJ:eE Q l "taken"){u:gJ}(am:fc Q "_law_left" ua z)(an:fc Q "_law_pick" tm A)(ap:fc Q "_law_next_to" wW B)(as:fc Q "_law_blocks" t2 C)(a1:fc Q "block_of" xF D)(a2:fc Q "moved" x5 E)(bd:fc Q "lesser_first" xy F)(be:fc Q "next_round" rE I)(bi:fc Q "ring" sm L)(bm:hn (k9 Q l j) Q "__init__" "Going.__init__" va j)(bn:fc Q "_law_cells" tJ M)(bs:fc Q "_law_tree" rD N)(bv:hn (dG Q l "at" k) Q "at" "Going.at" ux k)(ca:hn (dG Q l "mown" m) Q "mown" "Going.mown" tB m)(cd:fc Q "lookup" vO O)(ce:fc Q "not_in" px P)(ch:hn (dG Q l "left" n) Q "left" "Going.left" u6 n)(ci:hn (dG Q l "field" o) Q "field" "Going.field" ue o)(cl:hn (dG Q l "tree" q) Q "tree" "Going.tree" r2 q)(co:hn (dG Q l "step" r) Q "step" "Going.step" uq r)(cr:hn (dG Q l "lost" t) Q "lost" "Going.lost" uR t)(v:fc Q "law" uY S){R:dq}{w:ag}(cs:Ξ Q d1 "WAYS" = Z (Z<|.ref w))(db:R.gj=w)(cY:kL Q J.prog H R.kt R.b_)(ds:Ξ Q d1 "SIDE" = Z (Z<|.int 2 u))(dL:Ξ Q d1 "dict" = Z V)(eq:Ξ Q d1 "int" = Z V)(ev:Ξ Q d1 "len" = Z V)(ex:Ξ Q d1 "max" = Z V)(fn:Ξ Q d1 "min" = Z V)(fr:Ξ Q d1 "range" = Z V)(f0:Ξ Q d1 "set" = Z V)(f1:Ξ Q d1 "sorted" = Z V)(f2:Ξ Q d1 "tuple" = Z V):
  ∃fd:fY,(∀(h:ah) (s:ab),l7 h fd ⟨[s],[]⟩ [("_law_script",s)])/\∀R7:aV,Q.In R7->R7.Ns d1 aE->fM J.prog H Q aE R7 gk 4 i fd ["_law_script"] (ib 1<|G.pd l R):=by
 have R8:e9 aE:=⟨kK b a dL,kK b a eq,kK b a ev,kK b a ex,kK b a fn,kK b a fr,kK b a f0,kK b a f1,kK b a f2,⟨u,mT b a ds⟩⟩;have c:j8 Q aE l:=⟨al,mT b a U,sV,my,qV,lL,nJ,wJ⟩;have e:=mT b a cs;rw[<-db]at e;refine PY v b a T (λ_ K K K K K K K=>.of_eq rfl) λR7=>?_;let p:gN:=⟨J.prog,H,Q,aE,R7⟩
 have f4:=Of (p:=p) (am.b0 b a) R8;have f:=NF (p:=p) (an.b0 b a) R8;have x:=L8 (p:=p) (ap.bA b a) R8;have f8:=LF (p:=p) (as.b0 b a) R8 f x;have ga:=Pr (p:=p) (a1.b0 b a) R8;have ge:=Km (p:=p) (a2.uH b a) R8 cY e;have gl:=Li (p:=p) (bd.b0 b a) R8;have g:=KV (p:=p) (be.uH b a) R8 cY e ga gl ge;have go:=NV (p:=p) (bi.b0 b a) R8 cY e g;have gt:=Og (R4:=J.prog) (H:=H) (R7:=R7) c  bm.lB R8;have g1:=HJ (p:=p) (bn.bA b a) R8;have g2:=HV (p:=p) (bs.b0 b a) R8 x f;have g3:=Pt (R4:=J.prog) (H:=H) (R7:=R7) c  bv.bA R8;have hd:=G3 (R4:=J.prog) (H:=H) (R7:=R7) c  ca.bA R8;have he:=Kd (p:=p) (cd.bA b a) R8;have y:=Nt (p:=p) (ce.b0 b a) R8 he;have hf:=P5 (R4:=J.prog) (H:=H) (R7:=R7) c y ch.bA R8;have hm:=Oh (R4:=J.prog) (H:=H) (R7:=R7) c  ci.bA R8;have hw:=PU (R4:=J.prog) (H:=H) (R7:=R7) c  cl.bA R8;have h0:=LU (R4:=J.prog) (H:=H) (R7:=R7) c cY e g co.bA R8;have ii:=LR (R4:=J.prog) (H:=H) (R7:=R7) c y cr.bA R8;exact OJ (R:=R) (v.bA b a) R8 c cY e f4 f8 f g2 g1 go gt g3 hd hf g h0 ii hm hw
def walk{l:ag}{a b c e i m p SE r s y t u:ag}{q:bp}{A:List au}{B:(au->Option ab)->aV->Prop}{w:a7->aV->Prop}{x:DefRec}{Q:t4->Φ}(D:J.most=Z 63)(E:x.params.defaults=[])(L:∀(H:a7) (d:aV),w H d->(Q H.params).In d)(M:∀o,q1 (Q o)=aa)(N:∀(H:a7) (aE:au->Option ab) (z:ag) (d:aV),(Q H.params).In d->d.Ns d1 aE->aE x.name=Z (.ref z)->
   ∃fd:fY,(∀(h:ah) (I:ab),l7 h fd ⟨[I],[]⟩ [("_law_script",I)])/\∀R7:aV,(Q H.params).In R7->R7.Ns d1 aE->fM J.prog H (Q H.params) aE R7 gk 4 z fd ["_law_script"] (ib 1<|G.pd l<|nF a b c e i m p SE r s y t u))(O:G.oO (nF a b c e i m p SE r s y t u)):
  PySem.W.WalkO q A B w J.row.toRowW x [] (λF T=>PySem.call F T):=
 L2.HU (v:=63) (n:=4) (f := "_law_script") (k:=λ_=>gk) (S6:=λH=>ib 1<|G.pd l<|nF a b c e i m p SE r s y t u) D ∅ E ⟨rfl,by decide,by decide,rfl⟩ L N (λH j g P R S U=>Rc (M H.params) j g P S U (G.HR l O P (ug R ∅))) λ_ K K K K C=>C
end K52
namespace PySem.W.Fast
def tw14446258715843259268:=(0)
def tw9561402939059074144:=(0)
def tw9458702347475281344:=(0)
def tw8155484049715596832:=(0)
def tw13616360987839203904:=(0)
def tw9090456878634925760:=(0)
def tw6698895739222119264:=(0)
def tw15333501806098409344:=(0)
def tw10141122026113147840:=(0)
def tw216781824672997473:=(0)
def tw6986315219387635937:=(0)
def tw16642723520308256097:=(0)
def tw749997089153674785:=(0)
def tw4892736234907503297:=(0)
def tw6468561779581719233:=(0)
def tw6951494528407729025:=(0)
def tw9423718204468901954:=(0)
def tw2606131106250329250:=(0)
def tw12298928637812652290:=(0)
def tw7178457875592956258:=(0)
def tw15813116027853799874:=(0)
def tw17462828032278247906:=(0)
def tw9078348990963162786:=(0)
def tw4810602248492865250:=(0)
def tw13305457757907294275:=(0)
def tw7017777385784602787:=(0)
def tw16341520207435991363:=(0)
def tw9969367434226810179:=(0)
def tw11257142535927626083:=(0)
def tw3337685397116845923:=(0)
def tw10893872182537949123:=(0)
def tw11625879895563683044:=(0)
def tw15908492419332414788:=(0)
def tw9774874629637067108:=(0)
def tw2683239306213983684:=(0)
def tw15128285337021408804:=(0)
def tw10757746465496896132:=(0)
def tw8024236880665697956:=(0)
def tw12064968430473345860:=(0)
def tw15342755060883556869:=(0)
def tw9782230468391501349:=(0)
def tw10978847575359743653:=(0)
def tw15546802116499968965:=(0)
def tw12428483279099748358:=(0)
def tw8725405017573399718:=(0)
def tw14818657997243032902:=(0)
def tw8966592545475833350:=(0)
def tw4743498114863622854:=(0)
def tw749138408829965351:=(0)
def tw15514082772896549959:=(0)
def tw7806193900900169863:=(0)
def tw4762471040157134151:=(0)
def tw4079356512516013543:=(0)
def tw2295341232695134791:=(0)
def tw9841661524996569799:=(0)
def tw9460612898186413799:=(0)
def tw17341357809305223015:=(0)
def tw8831645945298812807:=(0)
def tw13405473716850031624:=(0)
def tw15861749270269731912:=(0)
def tw9062003875531153928:=(0)
def tw12645569651773375080:=(0)
def tw6921796215271186248:=(0)
def tw12520943015904762760:=(0)
def tw16009833828896775080:=(0)
def tw489773594524445672:=(0)
def tw13084674158030723209:=(0)
def tw8472161607705981193:=(0)
def tw10926914877535021417:=(0)
def tw7052948915825129161:=(0)
def tw2772670091483969481:=(0)
def tw13415092935109575850:=(0)
def tw15264675925142708778:=(0)
def tw17933980365145486026:=(0)
def tw15627915519975422475:=(0)
def tw172210483939731179:=(0)
def tw11731099962746092459:=(0)
def tw238621697866192843:=(0)
def tw14748731167955890188:=(0)
def tw1679279309145677868:=(0)
def tw14415084792344994988:=(0)
def tw14513666377171380620:=(0)
def tw5389279125386331116:=(0)
def tw1109514883842096237:=(0)
def tw15003667414382131501:=(0)
def tw7378884319070773549:=(0)
def tw3081285127918879501:=(0)
def tw17235593818355331853:=(0)
def tw8376362370572796717:=(0)
def tw2635599678616582061:=(0)
def tw12799137641255191501:=(0)
def tw7424222925673061486:=(0)
def tw7564650928327249614:=(0)
def tw12113412932377349838:=(0)
def tw5229993370904861583:=(0)
def tw5959692626063463536:=(0)
def tw1583755116597889232:=(0)
def tw6258499245354485008:=(0)
def tw6596925726491864496:=(0)
def tw15972797424420850544:=(0)
def tw14655469946519268369:=(0)
def tw16374315512243767505:=(0)
def tw17118223511056084177:=(0)
def tw1858777816553712497:=(0)
def tw18061895567415300017:=(0)
def tw2726575797342395345:=(0)
def tw6412725084473188434:=(0)
def tw14069525898490164562:=(0)
def tw589298743824500210:=(0)
def tw1353992577591045778:=(0)
def tw17318093088060758067:=(0)
def tw16918628691336811187:=(0)
def tw4695437240022127315:=(0)
def tw9033190521501404883:=(0)
def tw9650957996022069107:=(0)
def tw3750062182354613171:=(0)
def tw6963480612680680564:=(0)
def tw710369598149375156:=(0)
def tw10702048166608701876:=(0)
def tw17091399784019105364:=(0)
def tw16887164625322689268:=(0)
def tw6004106366793321621:=(0)
def tw10078386305114550645:=(0)
def tw4437347378479458901:=(0)
def tw11031910642132278965:=(0)
def tw10200183808007924758:=(0)
def tw13247971504882448438:=(0)
def tw2198193624044080950:=(0)
def tw2257368778677975063:=(0)
def tw1978125680160064695:=(0)
def tw11088996002291024055:=(0)
def tw17123289388485961527:=(0)
def tw150072926048395352:=(0)
def tw1830802682838064312:=(0)
def tw17258449476087504120:=(0)
def tw9579925130700882616:=(0)
def tw4138132888039298936:=(0)
def tw8301803314475676600:=(0)
def tw14720928344005389465:=(0)
def tw16526804101243658457:=(0)
def tw6390415183432845849:=(0)
def tw14052555636946107450:=(0)
def tw11843689750585798810:=(0)
def tw16425029193147769082:=(0)
def tw16823458119289992058:=(0)
def tw1061714762395869178:=(0)
def tw5048793191865348443:=(0)
def tw12211006840946639323:=(0)
def tw5785004366503530971:=(0)
def tw3555723804578943867:=(0)
def tw13772828801347940315:=(0)
def tw10562677323540673116:=(0)
def tw17908934016632460956:=(0)
def tw7995478559092112060:=(0)
def tw17462222519694703612:=(0)
def tw8457445921686124573:=(0)
def tw10641631422253273117:=(0)
def tw16873260492474370205:=(0)
def tw3497230772058142909:=(0)
def tw14034644398039573789:=(0)
def tw14031007299837844445:=(0)
def tw2727422990419470526:=(0)
def tw2674592016534078910:=(0)
def tw7351647860538343870:=(0)
def tw10683110678834848254:=(0)
def tw17485105727189006910:=(0)
def tw9497225480125230814:=(0)
def tw12092538592418293758:=(0)
def tw9885785557361284255:=(0)
def tw9707195872276806943:=(0)
def tw9846475738619602271:=(0)
def tw1567984277412612895:=(0)
def tw15350576545392423775:=(0)
end PySem.W.Fast
end
open PySem PySem.W PyProof.Rows
set_option maxRecDepth 100000 in
set_option maxHeartbeats 0 in
theorem PySem.Challenge.cw_mowfloor_k52_round_and_round_holds : PySem.Challenge.rw_mowfloor_k52_round_and_round.Holds := by
  w_on; o_law; k_head; (case hw => w_witness2)
  k_fill
  refine' K52.walk (J := PySem.Challenge.rw_mowfloor_k52_round_and_round) rfl rfl (fun w h Y => PySem.W.kIn_of Y) ?hK ?F ?KO
  case hK => intro p; rfl
  case F =>
    intro w mg fa h KX G hmg
    apply K52.all_mk KX G hmg
    k_is
    (refine' ⟨?_, ?_, ?_, ?_⟩ <;> k_is)
    iterate 6 (apply L2.noA; k_is)
    iterate 9 (apply L2.kR; iterate 4 k_is)
    iterate 1 (apply L2.BO; iterate 7 k_is)
    iterate 2 (apply L2.kR; iterate 4 k_is)
    iterate 2 (apply L2.t7; iterate 5 k_is)
    iterate 2 (apply L2.kR; iterate 4 k_is)
    iterate 5 (apply L2.t7; iterate 5 k_is)
    iterate 1 (apply L2.kR; iterate 4 k_is)
    k_is
    rfl
    (apply L2.Cr; k_is; (iterate 4 kernel_rfl); (iterate 4 (apply L2.kpm; k_is)); (iterate 4 (apply L2.krm; k_is)); (iterate 8 (apply L2.kpm; k_is)))
    iterate 10 k_is
  case KO => exact ⟨⟨_, _, _, rfl, rfl, rfl, rfl, rfl, rfl, rfl⟩, ⟨_, _, _, rfl, rfl, rfl, rfl, rfl, rfl, rfl⟩, ⟨_, _, _, rfl, rfl, rfl, rfl, rfl, rfl, rfl⟩, ⟨_, _, _, rfl, rfl, rfl, rfl, rfl, rfl, rfl⟩⟩
