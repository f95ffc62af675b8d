import PyProof.Rows.All
import Wide.All
import OpenK.AllK
import Wide.FinOn
import Lean
import PyProof.EqAt
import PyProof.EqKinds
import PyProof.TupleCall
import PyProof.IsiNone
import PyProof.NeKinds
import PyProof.MaxThree
import PyProof.Rows.SetFrom
import PyProof.WalksMore
import PyProof.CallStr
import KE.KRevIter
import PySem.Challenge.RW_mowfloor_k36_whole_bars_and_ways
set_option maxHeartbeats 4000000
set_option Elab.async false
set_option compiler.extract_closed false
open List (range range' replicate)
noncomputable section
local macro_rules|`(∅)=>`(by decide)
local macro_rules|`(⇑$e)=>`(by simpa using $e)
local macro_rules|`(↥$_)=>`(by simp)
local macro_rules|`(tactic|let $p:term:=$e)=>do
 let q:=p.raw
 let X (s:Lean.Syntax):=s.isOfKind ``Lean.Parser.Term.explicit
 let I (s:String):=Lean.mkIdent (.mkSimple s)
 let l:=(if X q then q[1] else q)[1].getSepArgs
 let n:=l.size
 let j:=if X q then 0 else ((l.findIdx? X).map (·+1)).getD 99
 let mut b:Array Lean.Ident:=#[]
 let mut t:Array (Lean.TSyntax `tactic):=#[]
 let w:=I "ζ"
 let E:=e.raw
 let u:=E.getId
 let c:=j<99&&E.isIdent&&l.any fun s=>s.getId==u||s[1].getId==u
 let h:=I "ξ"
 let u:=u.toString
 let u:=if u.startsWith "ζ" then u else "ζ"
 let d:Lean.Term:=if c then h else e
 let r ←if c then `(tactic|(revert $(⟨e⟩):ident;intro $h:ident)) else `(tactic|skip)
 if j<99&&E.isIdent then t:=t.push (←`(tactic|try clear $(⟨d⟩):ident))
 for i in [0:n] do
  let s:=if i+1==j then l[i]![1] else l[i]!
  let z:=I s!"{u}{i}"
  if s.isIdent&&(j==99||s.getId != `rfl) then b:=b.push ⟨s⟩
  else
   b:=b.push z
   if s.isIdent then t:=t.push (←`(tactic|subst $z))
   else if !s.isOfKind ``Lean.Parser.Term.hole then t:=t.push (←`(tactic|let $(⟨s⟩):term:=$z))
 let A:=b.extract j n
 let B:=b.extract 0 j
 let k:=I s!"xE{j}"
 if j==99 then `(tactic|(obtain ⟨$[$b:ident],*⟩:=$e;$t;*)) else if j==0 then `(tactic|($r;refine $(I s!"xA{n}") ($d :) fun $b* =>?_;$t;*)) else if j+1==n then `(tactic|($r;refine $k ($d :) fun $b* =>?_;$t;*)) else `(tactic|($r;refine $k ($d :) fun $B* $w=>?_;refine $(I s!"xA{n-j}") $w fun $A* =>?_;clear $w;$t;*))
local macro_rules|`(command|def $i:declId $s:optDeclSig:=$v)=>if v.raw.isOfKind ``Lean.Parser.Term.paren then `(command|noncomputable def $i $s:optDeclSig:=$v) else (·.raw.rewriteBottomUp (·.setInfo .none))<$>`(command|theorem $i $(⟨.node .none ``Lean.Parser.Command.declSig #[s.raw[0],s.raw[1][0]]⟩):declSig:=$v)|`(command|def $i:declId $s:optDeclSig $v:matchAlts)=>`(command|noncomputable def $i $s:optDeclSig $v:matchAlts)|`(command|@[simp] def $i:declId $s:optDeclSig:=$v)=>`(command|@[simp] noncomputable def $i $s:optDeclSig:=$v)|`(command|@[simp] def $i:declId $s:optDeclSig $v:matchAlts)=>`(command|@[simp] noncomputable def $i $s:optDeclSig $v:matchAlts)|`(command|abbrev $i:declId $s:optDeclSig:=$v)=>`(command|noncomputable abbrev $i $s:optDeclSig:=$v)
local macro_rules|`(⋯)=>`(by lia)
open PySem renaming wpAny_bind->aw,wpAny_pure->aW,wpAny_holding->fB,wpAny_newObj_type->ib,wpAny_callSpecial?_slot->k6,wpAny_call_entry->iH,wpAny_seqItems->iN,wpAny_truthy_bool->ky,wpAny_field->hI,wpAny_dictEntries->k7,wpAny_mono->hl,wpAny_rule->h7,wpAny_typeNameOfWhole_keyiter->ug,wpAny_specialOf->mK,codeAny_builtin->lU,plainId_quiet->kX,wpAny_forIn_list->nz,wpAny_setField_rec->ou,wpAny_passesOwn->m3,wpAny_Call_Name_kw->rT,wpAny_pyIter_list->rS,wpAny_letGo->ml,wpAny_isInstance->q1,wpAny_dictEpoch->qE,wpAny_tryCatch->qF,atKey_none_of_get->tg,wpAny_notOrdered_dict->yz,builtinLookup_eq_fast->vP,wpAny_attempt->q7,wpAny_updateSeq_pair->vN,wpAny_execs_nil->tI,call_meets->ox,wpAny_setField->uC,wpAny_standAt->t4,wpAny_onRaise->sL,noFill_tuple_add->vR,wpAny_pyNext_list_item->G8,richCompare_meets_room->DP,typeLookup_type->vW,wpAny_updateSeq->wh,size_of_entries->wy,wpAny_pyNext_list_end->EN,wpAny_isOneOf_keyiter->Gd,sizeLine_eq->tx,seqIndex_of->tD,wpAny_of_eq->s_,storedH_new->uT,seq_tuple_add->we,wpAny_newList->xR,wpAny_dictSet_heap->Ai,eqIsQuiet_byValue->El,wpAny_assign_Name->Et,codeAny_mono->zD,concat_meets->wq,wpAny_sequenceKey->Cm,seqIndex_neg->zF,slot_list_getitem->Fb,list_append->Bz,atKey_of_get->yd,wpAny_pyHash_int->AU,wpAny_pyHash_str->Dj,wpAny_execs_cons->GW,wpAny_pyIter_zip->Az,storedH_old->xN,wpAny_ret_mkInt->F0,wpAny_Name->yF,wpAny_fieldsOf->D2,isSubtype_stop->C2,wpAny_newTuple->z5,callType_codes->BE,evalPart_none->Ha,wpAny_handled->B6,intBits_le_64->Ew
open Option renaming bind_eq_some_iff->bS,map_eq_some_iff->cJ,bind_some->rj,map_some->qV,isSome_map->s7,getD_some->uz,getD_none->F5
open List renaming length_map->a9,append_assoc->bC,getD_eq_getElem?_getD->cN,mem_singleton->cA,size_toArray->cO,perm_append_comm->dC,length_append->c5,append_nil->cB,mem_append_right->dQ,mem_append_left->dK,mem_cons->cq,nodup_append->df,pairwise_singleton->ep,map_cons->cE,mem_append->dt,length_cons->dF,length_singleton->eD,mem_map->cH,getElem?_eq_getElem->e4,getElem?_eq_some_iff->fX,take_append_drop->fV,map_append->eF,getElem?_map->gq,drop_eq_getElem_cons->jz,getElem?_append_left->jR,lookup_cons->gx,mem_filter->gv,pairwise_cons->hQ,length_drop->gZ,mem_range->gr,nodup_cons->gV,length_take->hy,length_nil->hc,mem_of_getElem?->j1,length_range->iP,getElem?_append_right->mL,map_map->gf,mem_cons_of_mem->kB,nodup_iff_pairwise_ne->nx,eq_nil_of_length_eq_zero->o7,mem_cons_self->kF,foldl_cons->jj,nodup_nil->jb,find?_cons->jE,all_eq_true->kz,drop_of_length_le->nv,pairwise_iff_getElem->pe,map_congr_left->mm,getElem?_drop->md,getElem?_set_ne->nJ,mem_iff_getElem->nt,mem_of_mem_drop->nU,pairwise_map->mE,length_filter_le->pR,getElem?_take->n7,map_drop->kG,mem_of_mem_take->oB,drop_zero->lu,flatMap_cons->n5,take_of_length_le->qx,map_take->lA,mem_nil_iff->nr,not_mem_nil->ni,nil_append->nF,ext_getElem?->pz,any_cons->l1,eraseIdxIfInBounds_toArray->w9,length_pos_iff->r5,length_reverse->rA,cons_append->pA,drop_drop->nA,any_eq_true->ph,getElem?_set_self->sg,length_zip->oJ,perm_ext_iff_of_nodup->wu,getLast?_concat->sV,take_length->ru,mem_reverse->rI,length_eq_zero_iff->yu,take_sublist->tS,getElem_drop->uo,drop_take->qW,length_pos_of_mem->wD,getElem?_eq_none->vL,getElem_map->sC,filter_cons->sN,any_toArray->um,cons_ne_nil->tk,forIn_cons->sP,filterMap_cons->xw,lookup_append->vG,take_take->tL,take_zero->ue,setIfInBounds_toArray->Be,ne_nil_of_mem->xW,exists_cons_of_ne_nil->Ez,getLast?_eq_getElem?->B8,getElem?_zip_eq_some->Du,getElem_take->wg,drop_sublist->zd,reverse_cons->yS,map_id->ri,length_erase_of_mem->CK,getElem_inj->xJ,drop_length->wt,zipIdx_cons->xl,mem_flatMap->zA,any_map->ta,pairwise_lt_range->GR,of_mem_zip->x6,length_set->w5,range_succ->yt,dropLast_eq_take->Bo,getElem?_toArray->G2,length_dropLast->z9,extract_toArray->Ad,dropLast_concat->Fw,mem_erase_of_ne->GB,foldl_nil->vM,take_succ_cons->G1,reverse_append->EW,map_eq_nil_iff->A8,mem_filterMap->BS,all_map->wZ,getElem?_set->Eb,set_set->w4,foldl_append->Gx,reverse_perm->Dy,getElem_mem->Dh,map_toArray->C8,ext_getElem->F_,countP_cons->CA,range'_succ->By,zipIdx_nil->Ay,forIn_nil->Cj,set_comm->ES,perm_nil->DN,map_nil->D8
open PySem.Heap renaming get?_push_of_some->cw,get?_push_size->dx,lt_size->cn,get?_update_other->ks,get?_update_self->l2,size_push->lh,get?_none_of_le->xm
open Nat renaming le_refl->bl,lt_of_lt_of_le->eX,ne_of_lt->dU,le_trans->ew,zero_le->gI,le_of_ble_eq_true->nP,lt_irrefl->jx,lt_or_ge->jf,ne_of_gt->lH,lt_succ_self->pY,lt_trichotomy->qS,le_add_right->q9,add_assoc->pO,add_lt_add_iff_right->wW,min_eq_left->qw,le_of_not_lt->uW,le_of_lt->rN,add_comm->s6,add_sub_cancel->B7,lt_of_le_of_lt->DV,le_succ_of_le->AE,sub_self->y0,zero_add->zp,succ_le_succ->z8,le_zero->yk,le_antisymm->Ge,testBit_or->BW,lt_trans->FI,add_zero->AM,min_self->GV,sub_zero->D_,le_succ->Aq,not_lt->Fp
open PySem.W renaming kasC_pure->bc,kasC_bind->bh,mg_none_of->ik,kasC_range->fI,mg_of->lq,kasC_modify->km,kasC_get->j6,kasC_lift->nc,cellsFrom_some->Bj,callWith_K->Bh,kat_item->sz,kas_swaps_map->Ec
open Bool renaming and_eq_true->cX,false_ne_true->dA,false_eq_true->iL,not_eq_true'->jo,eq_iff_iff->r2,not_true->tC,true_and->xI,or_eq_true->EX,and_false->EG,and_true->GA,true_bne->DJ
open List.Perm renaming append_left->ee,append_right->fq,of_eq->wO,map->Gf,eq_of_pairwise->KL
open Array renaming length_toList->fy,getElem?_toList->gU,ext'->kg,getD_eq_getD_getElem?->C4,forIn_toList->xq,perm_iff_toList_perm->E3,getElem?_eq_getElem->CP,getElem_toList->Fm,toArray_toList->Ac,mem_toList_iff->AY,toList_push->Eo,size_append->A9,isEmpty_iff->Am
open PySem.F renaming plainAttrs_list->jC,slot_list_append->n1,type_list_append->n8,slot_dict_keyiterator_next->r6,slot_tuple_iterator_next->tG,args_tuple_add_2->ym,slot_list_getattribute->w_,entry_tuple_add->xE,slot_tuple_hash->si,slot_tuple_add->yj,slot_list_pop->vI,type_list_pop->yb,args_dict_keyiterator_next_1->B4,entry_dict_keyiterator_next->Eu,args_tuple_iterator_next_1->EV,slot_zip_next->tV,entry_tuple_iterator_next->zI,slot_dict_update->zJ,args_list_append_2->Ah,called_tuple->wM,entry_list_append->Hb,slot_list_append->Gp,args_zip_next_1->Dp,plain_list_iadd->E5,plain_tuple_new->DS,entry_list_pop->AR,slot_dict_iter->CV,entry_zip_next->z4,slot_list_pop->AO,slot_dict_len->G4
open PySem.PassesOwn renaming never->g4
open PySem.Heap.SameBut renaming update->jB
open PyProof.Rows renaming slot_tuple_getitem->pg,callWith_type1->qu,subscriptTail_builtinR->Dc,entry_tuple_getitem->BN,args_tuple_getitem->DG,callWith_builtin1->Hw,get?_update_seq->Fi,entry_list_sort->GZ,slicePart_none->FT,elem'_eq->u4,slot_list_sort->Ek,args_list_sort->Gm,tupleItemsOf_->B2,listUpdate_at->zY,plain_sorted->GP,entry_sorted->FY,args_sorted1->CE,lt_int->Ku,gt_int->RR
open PySem.Around renaming under_plainId->mN
open Int renaming emod_lt_of_pos->mQ,emod_nonneg->lO,le_refl->jX,toNat_natCast->qn,add_sub_cancel->sh,toNat_of_nonneg->yE,sub_add_cancel->Fh,le_trans->xC,le_of_lt->yD,ediv_nonneg->Es,not_lt->xQ,mul_le_mul->Ee,mul_one->Dx,mul_pos->BZ
open Classical renaming byContradiction->p8
open Ne renaming symm->fP
open PySem.Obj renaming data_mapDictKeys->uN,data_mapFields->uK,isFreed_of_dict->xy,isFreed_of_fields->zO,cls_mapFields->GG,data_mapDict->FN
open PySem.Calls renaming call_function_entry->xV,Name_function_global->Gk,callWith_builtin->B0,spliced_cons->zH,spliced_nil->Gh
open PySem.AutoSeq1 renaming sub_tuple_tuple->x_
open Prod renaming ext_iff->qA,ext->zB
open Prod.mk renaming injEq->tW
open Std.Legacy.Range renaming forIn_eq_forIn_range'->Ox
open PySem.SeqAt.EqAt renaming int_str->AW,str_int->Fc,none_tuple->JS,bool_tuple->Pr,tuple_none->Qc,tuple_bool->MQ,none_bool->JK,bool_none->JD,bool_bool->Mx,int_tuple->Pt,str_tuple->M7,tuple_int->Hp,tuple_str->Rt,none_int->J2,none_str->IC,bool_int->O1,bool_str->Nw,int_none->JQ,int_bool->OU,str_none->PT,str_bool->PX,int_int->I9,str_str->H_,of_refs->PY
open PySem.SeqAt.RcAt renaming tuples->C6,lists_lengths->N7,none_tuple->MT,bool_tuple->Nf,tuple_none->Le,tuple_bool->Qd,none_none->Pk,none_bool->Hu,bool_none->I0,bool_bool->P9,int_tuple->Nv,str_tuple->Jo,tuple_int->PI,tuple_str->KN,none_int->J1,none_str->QW,bool_int->KJ,bool_str->Qo,int_none->HZ,int_bool->Qt,str_none->Rz,str_bool->Qx,int_int->L_,int_str->KO,str_int->M8,str_str->JE,lists->Jr
open PySem.IsL renaming update->Bq
open List.cons renaming injEq->zM
open PySem.SeqAt.RcNeAt renaming lists_lengths->Hq,none_tuple->Nr,bool_tuple->JT,tuple_none->Ji,tuple_bool->Px,none_none->K9,none_bool->LG,bool_none->N4,bool_bool->NS,int_tuple->Lw,str_tuple->Md,tuple_int->OM,tuple_str->NQ,none_int->O3,none_str->RK,bool_int->RV,bool_str->HS,int_none->JH,int_bool->MA,str_none->LN,str_bool->KU,int_int->Nl,int_str->LZ,str_int->P_,str_str->Ih,tuples->JZ,lists->MX
open PyProof.Rows.LSm renaming kept_iter->FX
open PySem.W.Looks renaming of_pure->BB
open List.Pairwise renaming filter->LA,imp₂->IP,map->I1
open List.Nodup renaming sublist->Iq
open PySem renaming Scope->gE,Str->aD,Heap->a5,Value->ae,CmpOp->lg,Sem->dR,Addr->af,Stmt->b9,Expr->bu,Obj->bj,Shared->ao,Around->bw,World->bk,Program->bA,reduceHash->yJ,Builtin->a_,cLine->b6,model->aS,Tok->iu,Paired->eg,sysModules->iq,entryOfKey->nV,mainGlobals->dJ,builtinsNs->t6,bootBuiltins->e8,Env->eL,GenState->pP,Model->hp,eval->ck,isTrue->om,backTo->f6,starEach->bV,swapsWith->mZ,assign->ig,assignInOrder->EU,assignEach->fe,setItem->vs,swapsWithSole->DI,swappedStores->A4,PassesOwn->qh,pyNext->hK,letOwnedTupleGo->qN,pyIter->sy,rawInt->kE,Data->mY,Walks->mn,foldedSetIterable->ma,Operator->vF,binaryOp->f3,compareOp->d9,behindInMarks->oW,lastMarks->uF,recursionLimit->EF,Result->rd,FuncData->gp,BindsTo->lT,bindArgs->iY,Keyword->sd,NameKind->c6,cellsFrom->yQ,richCompare->nh,IsPart->kq,getItem->l9,typeLookup->ve,seqIndex?->wF,sliceBounds->nM,PlainAttrs->tr,typeOf->sa,attributeBase->vj,valueAt->nX,atKey->kO,storedH->kr,Params->sW,callerA->oa,DictEntry->qD,cellOf->tb,compEnvC->s9,newFunctionEnv->E1,comprehension->yx,newList->qQ,newExc->uh,newTuple->yp,firstArgMember->ur,field->mr,seqItems?->qb,ZipApart->tf,IsZip->ji,IsPair->h9,shortFactorBits->tO,getattributeRaised->CH,entryFor->wa,PyData->qe,ItemsOf->qs,dictSetHashed->sD
open Bool renaming true->X,false->ar
open Option renaming some->Z,none->Y
open PyProof.Rows renaming IsTup->o3,AllBare->lr,envOfC->jv,subscriptTail->Bb,IntsAre->rO,bubble->qy,SortKind->gA,Keyed->bf,SortSt->bz,pendingOf->hT,failedOf->hA,mergeAt'->uQ,ltAt'->nR,reverseSlice'->qp,seqObj->gs,keyKind'->ye,tuples'->rv
open PySem.W renaming WData->p9,WShape->qZ,kas_rev->mq,kas_cmp->ff,kas_item->bb,kas_st->uU,Frag->Φ,nsIn->Ψ,fnOf->Ξ,keepIn->Θ,codeIn->Δ,methodObj->Γ
open PySem
abbrev aJ:=@if_pos
abbrev aM:=@if_neg
abbrev dm:=@decide_eq_false
abbrev dw:=@decide_eq_true
abbrev hO:=@decide_eq_true_iff
abbrev hz:=@of_decide_eq_true
abbrev k8:=@decide_eq_false_iff_not
abbrev ka:=@beq_self_eq_true
abbrev gD:=@if_false
abbrev pb:=@decide_eq_decide
abbrev hx:=@if_true
abbrev iZ:=@or_false
abbrev w8:=@beq_eq_false_iff_ne
abbrev yY:=@decide_eq_true_eq
variable{SU:Sort _}{r:Prop}
def xE1{q:SU->Prop}(e:∃g,q g)(o:∀g,q g->r):r:=have ⟨g,a⟩:=e;o g a
variable{Tx:Sort _}
def xE2{q:SU->Tx->Prop}(e:∃g f,q g f)(o:∀g f,q g f->r):r:=have ⟨g,f,a⟩:=e;o g f a
variable{TP:Sort _}
def xE3{q:SU->Tx->TP->Prop}(e:∃g f h,q g f h)(o:∀g f h,q g f h->r):r:=have ⟨g,f,h,a⟩:=e;o g f h a
variable{TQ:Sort _}
def xE4{q:SU->Tx->TP->TQ->Prop}(e:∃g f h s,q g f h s)(o:∀g f h s,q g f h s->r):r:=have ⟨g,f,h,s,a⟩:=e;o g f h s a
variable{TR:Sort _}
def xE5{q:SU->Tx->TP->TQ->TR->Prop}(e:∃g f h s c,q g f h s c)(o:∀g f h s c,q g f h s c->r):r:=have ⟨g,f,h,s,c,a⟩:=e;o g f h s c a
variable{TS:Sort _}
def xE6{q:SU->Tx->TP->TQ->TR->TS->Prop}(e:∃g f h s c x,q g f h s c x)(o:∀g f h s c x,q g f h s c x->r):r:=have ⟨g,f,h,s,c,x,a⟩:=e;o g f h s c x a
def xE9{b:Sort _}{SS:Sort _}{d:Sort _}{q:SU->Tx->TP->TQ->TR->TS->b->SS->d->Prop}(e:∃g f h s c x M a i,q g f h s c x M a i)(o:∀g f h s c x M a i,q g f h s c x M a i->r):r:=have ⟨g,f,h,s,c,x,M,a,i,j⟩:=e;o g f h s c x M a i j
variable{g f:Prop}
def xA2(e:g/\f)(o:g->f->r):r:=o e.1 e.2
variable{h:Prop}
def xA3(e:g/\f/\h)(o:g->f->h->r):r:=o e.1 e.2.1 e.2.2
variable{s:Prop}
def xA4(e:g/\f/\h/\s)(o:g->f->h->s->r):r:=o e.1 e.2.1 e.2.2.1 e.2.2.2
variable{c:Prop}
def xA5(e:g/\f/\h/\s/\c)(o:g->f->h->s->c->r):r:=o e.1 e.2.1 e.2.2.1 e.2.2.2.1 e.2.2.2.2
variable{x:Prop}
def xA6(e:g/\f/\h/\s/\c/\x)(o:g->f->h->s->c->x->r):r:=o e.1 e.2.1 e.2.2.1 e.2.2.2.1 e.2.2.2.2.1 e.2.2.2.2.2
def xA8{M a:Prop}(e:g/\f/\h/\s/\c/\x/\M/\a)(o:g->f->h->s->c->x->M->a->r):r:=o e.1 e.2.1 e.2.2.1 e.2.2.2.1 e.2.2.2.2.1 e.2.2.2.2.2.1 e.2.2.2.2.2.2.1 e.2.2.2.2.2.2.2
set_option linter.all false
set_option maxRecDepth 100000
namespace L2
open Spec PyProof.Rows
variable{SQ:gE}{Tu d:aD}{SA e:a5}{az:aD->Option ae}{SJ SY:List aD}{TK S9:lg}{x:ae->ae->dR ae}{bF TB:List af}{TG:List b9}{M:Int->Int->Int}{S1 c h:bu}{p o a S5:Nat}{Sx:List bu}{So:Φ}{G:List (af×bj)}{SK:Pos}{j Sr:ao}{D Sv:ae->ao->Prop}{O:bw}{l:bk}{R:bA}{L:ae}{f g:af}{SO:List ae}
inductive ab where
 | aV|av (f:Bool)|int (a:Int)|str (d:aD)|tup (J:List ab)|fn (g:af)|aT (J:List ab)|fd
mutual
def ab.beq:ab->ab->Bool
 |.aV,.aV=>X
 |.av g,.av f=>g==f
 |.int a,.int i=>decide (a=i)
 |.str d,.str y=>decide (d=y)
 |.tup g,.tup f=>ab.lj g f
 |.fn g,.fn f=>decide (g=f)
 |.aT g,.aT f=>ab.lj g f
 |.fd,.fd=>X
 |_,_=>ar
def ab.lj:List ab->List ab->Bool
 |[],[]=>X
 |g::u,f::I=>ab.beq g f&&ab.lj u I
 |_,_=>ar
end
mutual
theorem ab.beq_iff:∀g f:ab,ab.beq g f=X↔g=f
 |.aV,f=>by cases f<;>simp[ab.beq]
 |.av g,f=>by cases f<;>simp[ab.beq]
 |.int a,f=>by cases f<;>simp[ab.beq]
 |.str d,f=>by cases f<;>simp[ab.beq]
 |.tup d,f=>by
  cases f with
  |tup y=>rw[ab.beq,ab.xY d y];simp
  |_=>simp[ab.beq]
 |.fn g,f=>by cases f<;>simp[ab.beq]
 |.aT d,f=>by
  cases f with
  |aT y=>rw[ab.beq,ab.xY d y];simp
  |_=>simp[ab.beq]
 |.fd,f=>by cases f<;>simp[ab.beq]
theorem ab.xY:∀g f:List ab,ab.lj g f=X↔g=f
 |[],f=>by cases f<;>simp[ab.lj]
 |d::u,f=>by
  cases f with
  |nil=>simp[ab.lj]
  |cons y I=>rw[ab.lj,cX,ab.beq_iff d y,ab.xY u I];simp
end
noncomputable instance:DecidableEq ab:=λg f=>decidable_of_iff (ab.beq g f=X) (ab.beq_iff g f)
mutual
def dS(e:a5):ab->ae->Prop
 |.aV,v=>v=.none
 |.av f,v=>v=.bool f
 |.int a,v=>∃I,v=.int a I
 |.str d,v=>∃I,v=.str d I
 |.fn g,v=>v=.ref g
 |.aT _,v=>∃g,v=.ref g
 |.fd,v=>∃g,v=.ref g
 |.tup J,v=>∃g n S p,v=.ref g/\e.get? g=Z n/\n.cls=.type "tuple" /\ n.data=.seq S p/\d0 e J S.toList
def d0(e:a5):List ab->List ae->Prop
 |[],Sp=>Sp=[]
 |s::J,Sp=>∃v u,Sp=v::u/\dS e s v/\d0 e J u
end
mutual
def ab.key:Nat->ab->Bool
 |_,.int _=>X
 |_,.str _=>X
 |p+1,.tup J=>ab.keys p J
 |_,_=>ar
def ab.keys:Nat->List ab->Bool
 |_,[]=>X
 |p,s::J=>ab.key p s&&ab.keys p J
end
mutual
def va(l:bk):ab->Int
 |.int a=>hashInt a
 |.str d=>hashStr l d
 |.tup J=>yJ (a_.Tuple.tupleHashOf<|h_ l J)
 |_=>0
def h_(l:bk):List ab->List Int
 |[]=>[]
 |s::J=>va l s::h_ l J
end
mutual
def sM:ab->Nat
 |.tup J=>kb J+1
 |_=>1
def kb:List ab->Nat
 |[]=>0
 |s::J=>sM s+kb J
end
theorem ze(l:bk):∀g f:List ab,h_ l (g++f)=h_ l g++h_ l f
 |[],f=>rfl
 |s::g,f=>by rw[pA,h_,h_,ze l g f,pA]
theorem yG:∀g f:List ab,kb (g++f)=kb g+kb f
 |[],f=>by simp[kb]
 |s::g,f=>by rw[pA,kb,kb,yG g f];lia
theorem EH{p:Nat}:∀{g f:List ab},ab.keys p (g++f)=X->ab.keys p f=X
 |[],f,e=>e
 |s::g,f,e=>by rw[pA,ab.keys,cX]at e;exact EH e.2
theorem d0.length{e:a5}:∀{J:List ab}{Sp:List ae},d0 e J Sp->J.length=Sp.length
 |[],Sp,c=>by rw[show Sp=[] from c];rfl
 |s::J,Sp,c=>by
  let⟨v,@u,rfl,W,c⟩:=c;rw[dF,dF,d0.length c]
def AG(e Sq:a5):Prop:=(∀g n S p,e.get? g=Z n->n.cls=.type "tuple" -> n.data=.seq S p->Sq.get? g=Z n)
mutual
theorem dS.keep{e Sq:a5}(o:AG e Sq):∀{s:ab}{v:ae},dS e s v->dS Sq s v
 |.aV,_,c=>c
 |.av _,_,c=>c
 |.int _,_,c=>c
 |.str _,_,c=>c
 |.fn _,_,c=>c
 |.aT _,_,c=>c
 |.fd,_,c=>c
 |.tup J,_,c=>by
  let⟨g,n,S,@p,rfl,t,C,a,b⟩:=c;exact⟨g,n,S,p,rfl,o g n S p t C a,C,a,d0.keep o b⟩
theorem d0.keep{e Sq:a5}(o:AG e Sq):∀{J:List ab}{Sp:List ae},d0 e J Sp->d0 Sq J Sp
 |[],_,c=>c
 |s::J,_,c=>by
  let⟨v,@u,rfl,t,C⟩:=c;exact⟨v,u,rfl,dS.keep o t,d0.keep o C⟩
end
theorem Bx{e:a5}:∀(p:Nat) {d y:ab}{v:ae},ab.key p d=X->ab.key p y=X->dS e d v->dS e y v->d=y
 |p,.int a,y,v,_,aZ,h,b=>by
  let⟨@I,rfl⟩:=h;cases y with
  |int i=>let⟨@L,c⟩:=b;injection c with c;rw[c]
  |str k=>let⟨@L,c⟩:=b;cases c
  |tup J=>let⟨W,W,W,@W,c,W⟩:=b;cases c
  |_=>cases p<;>cases aZ
 |p,.str k,y,v,_,aZ,h,b=>by
  let⟨@I,rfl⟩:=h;cases y with
  |int i=>let⟨@L,c⟩:=b;cases c
  |str k=>let⟨@L,c⟩:=b;injection c with c;rw[c]
  |tup J=>let⟨W,W,W,@W,c,W⟩:=b;cases c
  |_=>cases p<;>cases aZ
 |p+1,.tup J,y,v,m,aZ,h,b=>by
  let⟨g,n,S,@H,rfl,t,C,q,w⟩:=h;cases y with
  |int i=>let⟨@L,c⟩:=b;cases c
  |str k=>let⟨@L,c⟩:=b;cases c
  |tup Sx=>
   let⟨D,S7,E,@F,c,l,G,j,x⟩:=b;cases c;rw[t]at l;cases l;rw[q]at j;injection j with j _;subst j;have all:∀(J Sx:List ab) (Sp:List ae),ab.keys p J=X->ab.keys p Sx=X->d0 e J Sp->d0 e Sx Sp->J=Sx:=by
    intro J;induction J with
    |nil=>
     intro Sx Sp W W g f;cases Sx with
     |nil=>rfl
     |cons c Sx=>let⟨W,@W,r,W⟩:=f;rw[show Sp=[] from g]at r;cases r
    |cons s J z=>
     intro Sx Sp S6 S8 g f;let⟨v,@u,rfl,A,B⟩:=g;cases Sx with
     |nil=>cases (show v::u=[] from f)
     |cons c Sx=>
      let⟨M,@Ti,r,dp,di⟩:=f;cases r;rw[ab.keys,cX]at S6 S8;rw[Bx p S6.1 S8.1 A dp,z Sx u S6.2 S8.2 B di]
   rw[all J Sx _ m aZ w x]
  |_=>cases aZ
 |_,.aV,_,_,o,_,_,_=>by cases ‹Nat›<;>cases o
 |_,.av _,_,_,o,_,_,_=>by cases ‹Nat›<;>cases o
 |_,.fn _,_,_,o,_,_,_=>by cases ‹Nat›<;>cases o
 |_,.aT _,_,_,o,_,_,_=>by cases ‹Nat›<;>cases o
 |_,.fd,_,_,o,_,_,_=>by cases ‹Nat›<;>cases o
 |0,.tup _,_,_,o,_,_,_=>by cases o
section
variable{Sz:bA}{l:bk}
theorem EC:∀(p:Nat) {O:bw}{Sv:ae->ao->Prop}{j:ao}{s:ab}{v:ae}{D:Int->ao->Prop},ab.key p s=X->O.units+p<b6->dS j.heap s v->D (va l s) {j with toks:=j.toks+sM s}->
  wpAny (aS Sz l) O (pyHash v) D Sv j
 |p,O,Sv,j,.int a,v,D,_,_,b,e=>by
  let⟨@I,rfl⟩:=b;exact AU e
 |p,O,Sv,j,.str a,v,D,_,_,b,e=>by
  let⟨@I,rfl⟩:=b;exact Dj e
 |p+1,O,Sv,j,.tup J,v,D,o,x,b,e=>by
  let⟨g,n,S,@H,rfl,q,w,hd,U⟩:=b;have h:j.TypeIs (.ref g) "tuple" := ⟨n,q,w⟩;unfold pyHash;first|unfold pyHashByItsType|skip
  first|refine aw (wpAny_cRoomFor_or (.inr ⋯) ?_)|skip
  refine aw (mK h si.lookup ?_);show wpAny _ _ (if (Z (ae.builtin "tuple.__hash__")==Z ae.none)=X then _ else _) D Sv j;rw[aM (by rw[beq_builtin_none];exact dA)];refine aw (mK h si.lookup ?_);show wpAny _ _ (callSpecialIfBoundUnlessNone? (.ref g) "__hash__" _ >>= _) D Sv j;refine aw (wpAny_callSpecialIfBoundUnlessNone?_slot h si<|iH si h F.entry_tuple_hash ?_<|F.args_tuple_hash_1 _);show wpAny _ _ (a_.Tuple.tupleItemsOf (.ref g) >>= _) _ _ j;refine aw (wpAny_tupleItemsOf q hd ?_);refine aw ?_;rw[<-xq];refine nz _
   (λdh (f:Array Int) Sr=>∃done left,J=done++left/\d0 j.heap left dh/\f.toList=h_ l done/\Sr={j with toks:=j.toks+kb done})
   _ ?_ ?_ _ _ ⟨[],J,rfl,U,rfl,rfl⟩
  ·rintro d dh f Sr ⟨done,left,rfl,i,k,rfl⟩;cases left with
   |nil=>cases (show d::dh=[] from i)
   |cons s left=>
    let⟨v,@u,c,t,r⟩:=i;cases c;have S8:=EH (g:=done) (show ab.keys p (done++s::left)=X from o);rw[ab.keys,cX]at S8;refine aw (EC p S8.1 (by show O.units+1+p<b6;lia) t ?_);first
     | exact aW ⟨done++[s],left,by simp,r,by simp[k,ze,h_],by simp[yG,kb,pO]⟩
     | exact aw (aW (aW ⟨done++[s],left,by simp,r,by simp[k,ze,h_],by simp[yG,kb,pO]⟩))
  ·rintro f Sr ⟨done,left,rfl,i,k,rfl⟩;cases left with
   |cons s left=>let⟨W,@W,c,W⟩:=i;cases c
   |nil=>
   rw[cB]at e;show wpAny _ _ (retInt<|a_.Tuple.tupleHashOf f.toList) _ _ _;rw[k];refine F0 ?_;show wpAny _ _ (if (decide (-(2:Int)^63<=a_.Tuple.tupleHashOf (h_ l done))&&decide (a_.Tuple.tupleHashOf (h_ l done)<2^63))=X then _ else _) D Sv _;rw[va,sM]at e;unfold yJ at e;by_cases m:(decide (-(2:Int)^63<=a_.Tuple.tupleHashOf (h_ l done))&&decide (a_.Tuple.tupleHashOf (h_ l done)<2^63))=X
   ·rw[aJ m];rw[aJ m]at e;exact aW (by simpa [pO] using e)
   ·rw[aM m];rw[aM m]at e;exact aw (h7 (aW (by simpa [pO] using e)))
 |_,_,_,_,.aV,_,_,o,_,_,_=>by cases ‹Nat›<;>cases o
 |_,_,_,_,.av _,_,_,o,_,_,_=>by cases ‹Nat›<;>cases o
 |_,_,_,_,.fn _,_,_,o,_,_,_=>by cases ‹Nat›<;>cases o
 |_,_,_,_,.aT _,_,_,o,_,_,_=>by cases ‹Nat›<;>cases o
 |_,_,_,_,.fd,_,_,o,_,_,_=>by cases ‹Nat›<;>cases o
 |0,_,_,_,.tup _,_,_,o,_,_,_=>by cases o
mutual
def cy:ab->ab->Bool
 |.aV,.aV=>X
 |.av g,.av f=>g==f
 |.av g,.int i=>(if g then 1 else 0)==i
 |.int a,.av f=>a==(if f then 1 else 0)
 |.int a,.int i=>a==i
 |.str d,.str y=>d==y
 |.tup g,.tup f=>fS g f
 |_,_=>ar
def fS:List ab->List ab->Bool
 |[],[]=>X
 |g::u,f::I=>cy g f&&fS u I
 |_,_=>ar
end
mutual
def ab.bD:Nat->ab->Bool
 |_,.aV=>X
 |_,.av _=>X
 |_,.int _=>X
 |_,.str _=>X
 |p+1,.tup J=>ab.du p J
 |_,_=>ar
def ab.du:Nat->List ab->Bool
 |_,[]=>X
 |p,s::J=>ab.bD p s&&ab.du p J
end
theorem jK{p:Nat}:∀{J:List ab}{i:Nat}{s:ab},ab.du p J=X->J[i]?=Z s->ab.bD p s=X
 |[],i,s,_,e=>by simp at e
 |c::J,0,s,o,e=>by
  rw[ab.du,cX]at o;simp at e;subst e;exact o.1
 |c::J,i+1,s,o,e=>by
  rw[ab.du,cX]at o;exact jK o.2 ⇑e
theorem d0.get{e:a5}:∀{J:List ab}{Sp:List ae}{i:Nat}{v:ae},d0 e J Sp->Sp[i]?=Z v->∃s,J[i]?=Z s/\dS e s v
 |[],Sp,i,v,g,c=>by rw[show Sp=[] from g]at c;simp at c
 |s::J,Sp,0,v,g,c=>by
  let⟨L,@u,rfl,a,b⟩:=g;simp at c;subst c;exact⟨s,rfl,a⟩
 |s::J,Sp,i+1,v,g,c=>by
  let⟨L,@u,rfl,a,b⟩:=g;let⟨@d,t,C⟩:=d0.get (i:=i) b ⇑c;exact⟨d,by simpa using t,C⟩
theorem Ci{e:a5}:∀(p:Nat) {d y:ab}{v:ae},ab.bD p d=X->ab.bD p y=X->dS e d v->dS e y v->cy d y=X
 |p,.aV,y,v,_,aZ,j,b=>by
  cases (show v=.none from j);cases y with
  |aV=>rfl
  |av f=>cases b
  |int i=>let⟨@L,c⟩:=b;cases c
  |str k=>let⟨@L,c⟩:=b;cases c
  |tup J=>let⟨W,W,W,@W,c,W⟩:=b;cases c
  |fn g=>cases p<;>cases aZ
  |aT g=>cases p<;>cases aZ
  |fd=>cases p<;>cases aZ
 |p,.av f,y,v,_,aZ,j,b=>by
  cases (show v=.bool f from j);cases y with
  |aV=>cases b
  |av h=>cases b;simp[cy]
  |int i=>let⟨@L,c⟩:=b;cases c
  |str k=>let⟨@L,c⟩:=b;cases c
  |tup J=>let⟨W,W,W,@W,c,W⟩:=b;cases c
  |fn g=>cases p<;>cases aZ
  |aT g=>cases p<;>cases aZ
  |fd=>cases p<;>cases aZ
 |p,.int a,y,v,_,aZ,j,b=>by
  let⟨@I,rfl⟩:=j;cases y with
  |aV=>cases b
  |av h=>cases b
  |int i=>let⟨@L,c⟩:=b;cases c;simp[cy]
  |str k=>let⟨@L,c⟩:=b;cases c
  |tup J=>let⟨W,W,W,@W,c,W⟩:=b;cases c
  |fn g=>cases p<;>cases aZ
  |aT g=>cases p<;>cases aZ
  |fd=>cases p<;>cases aZ
 |p,.str a,y,v,_,aZ,j,b=>by
  let⟨@I,rfl⟩:=j;cases y with
  |aV=>cases b
  |av h=>cases b
  |int i=>let⟨@L,c⟩:=b;cases c
  |str k=>let⟨@L,c⟩:=b;cases c;simp[cy]
  |tup J=>let⟨W,W,W,@W,c,W⟩:=b;cases c
  |fn g=>cases p<;>cases aZ
  |aT g=>cases p<;>cases aZ
  |fd=>cases p<;>cases aZ
 |p+1,.tup J,y,v,q,aZ,j,b=>by
  let⟨g,n,S,@H,rfl,t,C,w,x⟩:=j;cases y with
  |aV=>cases b
  |av h=>cases b
  |int i=>let⟨@L,c⟩:=b;cases c
  |str k=>let⟨@L,c⟩:=b;cases c
  |fn g=>cases aZ
  |aT g=>cases aZ
  |fd=>cases aZ
  |tup Sx=>
   let⟨E,S7,F,@G,c,m,M,l,z⟩:=b;cases c;rw[t]at m;cases m;rw[w]at l;injection l with l _;subst l;have all:∀(J Sx:List ab) (Sp:List ae),ab.du p J=X->ab.du p Sx=X->d0 e J Sp->d0 e Sx Sp->fS J Sx=X:=by
    intro J;induction J with
    |nil=>
     intro Sx Sp W W g f;cases Sx with
     |nil=>rfl
     |cons c Sx=>let⟨W,@W,r,W⟩:=f;rw[show Sp=[] from g]at r;cases r
    |cons s J A=>
     intro Sx Sp S6 S8 g f;let⟨v,@u,rfl,B,D⟩:=g;cases Sx with
     |nil=>cases (show v::u=[] from f)
     |cons c Sx=>
      let⟨N,@Ti,r,dp,di⟩:=f;cases r;rw[ab.du,cX]at S6 S8;rw[fS,Ci p S6.1 S8.1 B dp,A Sx u S6.2 S8.2 D di];rfl
   rw[cy];exact all J Sx _ q aZ x z
 |p,.fn _,_,_,o,_,_,_=>by cases p<;>cases o
 |p,.aT _,_,_,o,_,_,_=>by cases p<;>cases o
 |p,.fd,_,_,o,_,_,_=>by cases p<;>cases o
 |0,.tup _,_,_,o,_,_,_=>by cases o
def rk{c:Nat->Bool}:∀{J Sx:List ab},(∀(i:Nat) (d y:ab),J[i]?=Z d->Sx[i]?=Z y->c i=cy d y)->((range<|min J.length Sx.length).all c&&J.length==Sx.length)=fS J Sx:=by
 have P:∀(J Sx:List ab) (x:Nat->Bool),(∀(i:Nat) (d y:ab),J[i]?=Z d->Sx[i]?=Z y->x i=cy d y)->((range<|min J.length Sx.length).all x&&J.length==Sx.length)=fS J Sx:=by
  intro J;induction J with
  |nil=>intro Sx x W;cases Sx<;>simp[fS]
  |cons s J a=>
   intro Sx x e;cases Sx with
   |nil=>simp[fS]
   |cons h Sx=>
    have:=a Sx (λi=>x<|i+1) λi d y g f=>e (i+1) d y ⇑g ⇑f;rw[fS,<-this,<-e 0 s h rfl rfl];rw[dF,dF,show min (J.length+1) (Sx.length+1)=min J.length Sx.length+1 by lia,List.range_succ_eq_map,List.all_cons,wZ,Bool.and_assoc];congr 2;rw[r2];simp
 exact λ{J Sx} e=>P J Sx c e
theorem iz{j:ao}:∀(p:Nat) {O:bw}{d y:ab}{L v:ae},ab.bD p d=X->ab.bD p y=X->O.units+p+1<b6->dS j.heap d L->dS j.heap y v->SeqAt.EqAt O j L v (cy d y)
 |p,O,.aV,y,L,v,_,aZ,q,k,b=>by
  cases (show L=.none from k);cases y with
  |aV=>cases (show v=.none from b);exact SeqAt.EqAt.same _
  |av f=>cases (show v=.bool f from b);exact JK f
  |int i=>let⟨@I,rfl⟩:=b;exact J2 i I
  |str l=>let⟨@I,rfl⟩:=b;exact IC l I
  |tup J=>let⟨g,n,S,@H,rfl,t,C,m,W⟩:=b;exact JS ⟨n,t,C,H,m⟩ ⋯
  |fn g=>cases p<;>cases aZ
  |aT g=>cases p<;>cases aZ
  |fd=>cases p<;>cases aZ
 |p,O,.av f,y,L,v,_,aZ,q,k,b=>by
  cases (show L=.bool f from k);cases y with
  |aV=>cases (show v=.none from b);exact JD f
  |av h=>cases (show v=.bool h from b);exact Mx f h
  |int i=>let⟨@I,rfl⟩:=b;exact O1 f i I
  |str l=>let⟨@I,rfl⟩:=b;exact Nw f l I
  |tup J=>let⟨g,n,S,@H,rfl,t,C,m,W⟩:=b;exact Pr f ⟨n,t,C,H,m⟩ ⋯
  |fn g=>cases p<;>cases aZ
  |aT g=>cases p<;>cases aZ
  |fd=>cases p<;>cases aZ
 |p,O,.int a,y,L,v,_,aZ,q,k,b=>by
  let⟨@e,rfl⟩:=k;cases y with
  |aV=>cases (show v=.none from b);exact JQ a e
  |av h=>cases (show v=.bool h from b);exact OU a e h
  |int i=>let⟨@I,rfl⟩:=b;exact I9 a e i I
  |str l=>let⟨@I,rfl⟩:=b;exact AW a e l I
  |tup J=>let⟨g,n,S,@H,rfl,t,C,m,W⟩:=b;exact Pt a e ⟨n,t,C,H,m⟩ ⋯
  |fn g=>cases p<;>cases aZ
  |aT g=>cases p<;>cases aZ
  |fd=>cases p<;>cases aZ
 |p,O,.str a,y,L,v,_,aZ,q,k,b=>by
  let⟨@e,rfl⟩:=k;cases y with
  |aV=>cases (show v=.none from b);exact PT a e
  |av h=>cases (show v=.bool h from b);exact PX a e h
  |int i=>let⟨@I,rfl⟩:=b;exact Fc a e i I
  |str l=>let⟨@I,rfl⟩:=b;exact H_ a e l I
  |tup J=>let⟨g,n,S,@H,rfl,t,C,m,W⟩:=b;exact M7 a e ⟨n,t,C,H,m⟩ ⋯
  |fn g=>cases p<;>cases aZ
  |aT g=>cases p<;>cases aZ
  |fd=>cases p<;>cases aZ
 |p+1,O,.tup J,y,L,v,u,aZ,q,k,b=>by
  have B:=k;let⟨g,n,S,@H,rfl,t,C,m,w⟩:=k;have P:j.heap.IsTuple g S:=⟨n,t,C,H,m⟩;cases y with
  |aV=>cases (show v=.none from b);exact Qc P ⋯
  |av h=>cases (show v=.bool h from b);exact MQ h P ⋯
  |int i=>let⟨@I,rfl⟩:=b;exact Hp i I P ⋯
  |str l=>let⟨@I,rfl⟩:=b;exact Rt l I P ⋯
  |fn g=>cases aZ
  |aT g=>cases aZ
  |fd=>cases aZ
  |tup Sx=>
   have D:=b;let⟨f,S7,s,@E,rfl,F,G,M,x⟩:=b;by_cases c:g=f
   ·subst c;rw[Ci (p+1) u aZ B D];exact SeqAt.EqAt.same _
   ·have Tv:j.heap.IsTuple f s:=⟨S7,F,G,E,M⟩;have aX:=w.length;have bp:=x.length;have N:S.toList.length=S.size:=by simp
    have Q:s.toList.length=s.size:=by simp
    rw[N]at aX;rw[Q]at bp;have r:=PY (A:=O) c (C6 (e:=λi=>cy (J.getD i .aV)<|Sx.getD i .aV) P Tv ⋯ λi R T=>by
     let⟨@Td,z,U⟩:=w.get (i:=i) (v:=S[i]) (by rw[gU];simp[R]);let⟨@Te,A,al⟩:=x.get (i:=i) (v:=s[i]) (by rw[gU];simp[T]);rw[cN,z,cN,A];exact iz p (jK u z) (jK aZ A) (by show O.units+1+p+1<b6;lia) U al)
    rw[<-aX,<-bp,rk (J:=J) (Sx:=Sx) (λi d y g f=>by rw[cN,g,cN,f];rfl)]at r;rw[cy];exact r
 |p,O,.fn _,_,_,_,o,_,_,_,_=>by cases p<;>cases o
 |p,O,.aT _,_,_,_,o,_,_,_,_=>by cases p<;>cases o
 |p,O,.fd,_,_,_,o,_,_,_,_=>by cases p<;>cases o
 |0,O,.tup _,_,_,_,o,_,_,_,_=>by cases o
mutual
theorem yC:∀{p:Nat}{s:ab},ab.key p s=X->ab.bD p s=X
 |p,.int _,_=>by cases p<;>rfl
 |p,.str _,_=>by cases p<;>rfl
 |p+1,.tup J,e=>by rw[ab.key]at e;rw[ab.bD];exact zS e
 |0,.tup _,e=>by cases e
 |p,.aV,e=>by cases p<;>cases e
 |p,.av _,e=>by cases p<;>cases e
 |p,.fn _,e=>by cases p<;>cases e
 |p,.aT _,e=>by cases p<;>cases e
 |p,.fd,e=>by cases p<;>cases e
theorem zS:∀{p:Nat}{J:List ab},ab.keys p J=X->ab.du p J=X
 |p,[],_=>by rw[ab.du]
 |p,s::J,e=>by rw[ab.keys,cX]at e;rw[ab.du,yC e.1,zS e.2];rfl
end
mutual
theorem Av:∀{p:Nat}{d y:ab},ab.key p d=X->ab.key p y=X->cy d y=decide (d=y)
 |p,.int a,y,_,b=>by
  cases y with
  |int i=>rw[cy];by_cases c:a=i<;>simp[c]
  |str f=>simp[cy]
  |tup f=>simp[cy]
  |_=>cases p<;>cases b
 |p,.str a,y,_,b=>by
  cases y with
  |int i=>simp[cy]
  |str f=>rw[cy];by_cases c:a=f<;>simp[c]
  |tup f=>simp[cy]
  |_=>cases p<;>cases b
 |p+1,.tup J,y,g,b=>by
  cases y with
  |int i=>simp[cy]
  |str f=>simp[cy]
  |tup Sx=>
   rw[ab.key]at g b;rw[cy,D0 g b];simp
  |_=>cases b
 |0,.tup _,_,e,_=>by cases e
 |p,.aV,_,e,_=>by cases p<;>cases e
 |p,.av _,_,e,_=>by cases p<;>cases e
 |p,.fn _,_,e,_=>by cases p<;>cases e
 |p,.aT _,_,e,_=>by cases p<;>cases e
 |p,.fd,_,e,_=>by cases p<;>cases e
theorem D0:∀{p:Nat}{d y:List ab},ab.keys p d=X->ab.keys p y=X->fS d y=decide (d=y)
 |p,[],y,_,_=>by cases y<;>simp[fS]
 |p,s::J,[],_,_=>by simp[fS]
 |p,s::J,c::Sx,a,b=>by
  rw[ab.keys,cX]at a b;rw[fS,Av a.1 b.1,D0 a.2 b.2];by_cases t:s=c<;>by_cases C:J=Sx<;>simp[t,C]
end
theorem Fq:∀(p:Nat) {O:bw}{Sv:ae->ao->Prop}{j:ao}{s:ab}{v:ae}{D:Bool->ao->Prop},ab.key p s=X->dS j.heap s v->D X j->wpAny (aS Sz l) O (eqIsQuiet p v) D Sv j
 |p,O,Sv,j,.int a,v,D,_,b,e=>by
  let⟨@I,rfl⟩:=b;rw[El p rfl];exact aW e
 |p,O,Sv,j,.str a,v,D,_,b,e=>by
  let⟨@I,rfl⟩:=b;rw[El p rfl];exact aW e
 |p+1,O,Sv,j,.tup J,v,D,o,b,e=>by
  let⟨g,n,S,@H,rfl,h,m,hd,U⟩:=b;have i:j.TypeIs (.ref g) "tuple" := ⟨n,h,m⟩;unfold eqIsQuiet;refine aw (mK i F.slot_tuple_eq.lookup ?_);show wpAny _ _ (isInstance (.ref g) (.type "tuple") >>= _) _ _ j;refine aw (q1 i isSubtype_tuple_tuple ?_);simp only[tC,iL,gD];refine aw (iN h hd ?_);refine aw ?_;show wpAny _ _ (forIn S _ _) _ _ j;rw[<-xq];rw[ab.key]at o;refine nz _ (λdh u Sr=>u.1=Y/\Sr=j/\∃left,ab.keys p left=X/\d0 j.heap left dh) _ ?_ ?_ _ _ ⟨rfl,rfl,J,o,U⟩
  ·rintro v dh u Sr ⟨d,rfl,left,f,k⟩;cases left with
   |nil=>cases (show v::dh=[] from k)
   |cons s left=>
    let⟨r,@Ti,c,t,q⟩:=k;cases c;rw[ab.keys,cX]at f;refine aw (Fq p f.1 t ?_);simp only[tC,iL,gD];exact aW ⟨rfl,rfl,left,f.2,q⟩
  ·rintro⟨w,x⟩ Sr ⟨d,rfl,W⟩;simp only at d;subst d;exact aW e
 |_,_,_,_,.aV,_,_,o,_,_=>by cases ‹Nat›<;>cases o
 |_,_,_,_,.av _,_,_,o,_,_=>by cases ‹Nat›<;>cases o
 |_,_,_,_,.fn _,_,_,o,_,_=>by cases ‹Nat›<;>cases o
 |_,_,_,_,.aT _,_,_,o,_,_=>by cases ‹Nat›<;>cases o
 |_,_,_,_,.fd,_,_,o,_,_=>by cases ‹Nat›<;>cases o
 |0,_,_,_,.tup _,_,_,o,_,_=>by cases o
def gu(Sz:bA)(l:bk):HeapKind Sz l (List ab) where
 is:=λe J g=>ab.keys 7 J=X/\dS e (.tup J) (.ref g)
 hash:=λJ=>va l (.tup J)
 draws:=λJ=>sM (.tup J)
 room:=λO=>O.units+10<b6
 inj:=λa b=>by
  have:=Bx 8 (d:=.tup _) (y:=.tup _) a.1 b.1 a.2 b.2;injection this
 keeps:=λ{e Sq o g s n Sx Tg} d m hd q=>⟨d.1,d.2.keep λf L S p h u k=>by
  have t:f≠s:=by
   rintro rfl;rw[m]at h;cases h;rw[hd]at k;cases k
  exact (q.2 f t).trans h⟩
 pyHash:=λi c e=>EC 8 (s:=.tup _) c.1 (show _<_ by have:_+10<b6:=i;lia) c.2 e
 eqBool:=λ{O Sv j d y g f D} i a b e=>by
  have r:=iz (j:=j) 8 (O:=O) (d:=.tup d) (y:=.tup y) (yC (p:=8) (s:=.tup d) a.1) (yC (p:=8) (s:=.tup y) b.1) (show _<_ by have:O.units+10<b6:=i;lia) a.2 b.2;rw[Av (p:=8) (d:=.tup d) (y:=.tup y) a.1 b.1]at r;exact r _ _ Sv D ⇑e
 quiet:=λc e=>Fq 8 (s:=.tup _) c.1 c.2 e
end
abbrev eo:=Sum Int aD
def oF:eo->ae->Bool
 |.inl o,v=>ae.isInt o v
 |.inr d,v=>ae.isStrOf d v
def RS(l:bk):eo->Int
 |.inl o=>hashInt o
 |.inr d=>hashStr l d
theorem lC:∀{o:eo}{v:ae},oF o v=X->(∃a I,o=Sum.inl a/\v=ae.int a I)\/(∃d I,o=Sum.inr d/\v=ae.str d I)
 |.inl a,v,e=>by
  let⟨@I,c⟩:=ae.isInt_shape (k:=a) (v:=v) e;exact .inl ⟨a,I,rfl,c⟩
 |.inr d,v,e=>by
  let⟨@I,c⟩:=ae.isStrOf_shape (x:=d) (v:=v) e;exact .inr ⟨d,I,rfl,c⟩
def Ru(a:Int)(I:iu):oF (.inl a) (.int a I)=X:=by simp[oF,ae.isInt]
def QU(d:aD)(I:iu):oF (.inr d) (.str d I)=X:=by simp[oF,ae.isStrOf]
def LU(g f:Int):decide ((Sum.inl g:eo)=Sum.inl f)=(g==f):=by
 by_cases c:g=f
 ·subst c;simp
 ·have e:¬ (Sum.inl g:eo)=Sum.inl f:=λr=>c (Sum.inl.inj r);rw[dm e];exact (w8.mpr c).symm
def Rb(g f:aD):decide ((Sum.inr g:eo)=Sum.inr f)=decide (g=f):=by
 by_cases c:g=f
 ·subst c;simp
 ·have e:¬ (Sum.inr g:eo)=Sum.inr f:=λr=>c (Sum.inr.inj r);rw[dm e,dm c]
def RA(g:Int)(f:aD):decide ((Sum.inl g:eo)=Sum.inr f)=ar:=dm (λr=>nomatch r)
def O_(g:aD)(f:Int):decide ((Sum.inr g:eo)=Sum.inl f)=ar:=dm (λr=>nomatch r)
def mu(Sz:bA)(l:bk):PySem.KeyKind Sz l eo where
 is:=oF
 hash:=RS l
 inj:=λv g f k j=>by
  rcases lC k with ⟨a,I,rfl,rfl⟩|⟨d,I,rfl,rfl⟩
  ·rcases lC j with ⟨i,L,rfl,c⟩|⟨y,L,rfl,c⟩
   ·injection c with b _;rw[b]
   ·exact nomatch c
  ·rcases lC j with ⟨i,L,rfl,c⟩|⟨y,L,rfl,c⟩
   ·exact nomatch c
   ·injection c with b _;rw[b]
 byValue:=λo v e=>by
  rcases lC e with ⟨a,I,rfl,rfl⟩|⟨d,I,rfl,rfl⟩<;>rfl
 pyHash:=λh e=>by
  rcases lC h with ⟨a,I,rfl,rfl⟩|⟨d,I,rfl,rfl⟩
  ·exact AU e
  ·exact Dj e
 eqBool:=λm h e=>by
  rcases lC m with ⟨a,I,rfl,rfl⟩|⟨d,I,rfl,rfl⟩
  ·rcases lC h with ⟨i,L,rfl,rfl⟩|⟨y,L,rfl,rfl⟩
   ·rw[LU]at e;exact wpAny_eqBool_int e
   ·rw[RA]at e;exact AW a I y L _ _ _ _ e
  ·rcases lC h with ⟨i,L,rfl,rfl⟩|⟨y,L,rfl,rfl⟩
   ·rw[O_]at e;exact Fc d I i L _ _ _ _ e
   ·rw[Rb]at e;exact wpAny_eqBool_str e
 «strs»:=λo d I v e=>by
  rcases lC e with ⟨a,L,rfl,c⟩|⟨y,L,rfl,c⟩
  ·exact nomatch c
  ·injection c with b _;subst b;cases v<;>rfl
def Rx(Sz:bA)(l:bk)(a:Int)(I:iu):(mu Sz l).is (.inl a) (.int a I)=X:=Ru a I
def HV(Sz:bA)(l:bk)(d:aD)(I:iu):(mu Sz l).is (.inr d) (.str d I)=X:=QU d I
inductive aj where
 | aV|av (f:Bool)|int (a:Int)|str (d:aD)|qG (f:Array UInt8)|yq (f:UInt64)|ref (g:af)|ty (p:String)
 deriving DecidableEq
variable{Sp w:List aj}{y v:aj}
def cc:aj->ae->Prop
 |.aV,L=>L=ae.none
 |.av f,L=>L=ae.bool f
 |.int a,L=>∃I,L=ae.int a I
 |.str d,L=>∃I,L=ae.str d I
 |.qG f,L=>∃I,L=ae.bytes f I
 |.yq f,L=>∃I,L=ae.float f I
 |.ref g,L=>L=ae.ref g
 |.ty p,L=>L=ae.type p
abbrev bW:List aj->List ae->Prop:=eg cc
def bW.length(u:bW w SO):w.length=SO.length:=eg.length u
theorem bW.get:∀{w:List aj}{SO:List ae}{a:Nat}{d:aj},bW w SO->w[a]?=Z d->∃L,SO[a]?=Z L/\cc d L
 |_,_,_,_,.nil,c=>by simp at c
 |_,_,0,_,.cons u _,c=>by simp at c;subst c;exact⟨_,rfl,u⟩
 |_,_,a+1,d,.cons _ I,c=>by
  let⟨@L,t,C⟩:=bW.get (a:=a) (d:=d) I ⇑c;exact⟨L,by simpa using t,C⟩
theorem bW.set{d:aj}{L:ae}(u:cc d L):∀{w:List aj}{SO:List ae} (a:Nat),bW w SO->bW (w.set a d) (SO.set a L)
 |_,_,_,.nil=>.nil
 |_,_,0,.cons _ I=>.cons u I
 |_,_,a+1,.cons r I=>.cons r (bW.set u a I)
theorem bW.append:∀{w SI:List aj}{SO Ta:List ae},bW w SO->bW SI Ta->bW (w++SI) (SO++Ta)
 |_,_,_,_,.nil,j=>j
 |_,_,_,_,.cons u I,j=>.cons u (bW.append I j)
theorem bW.take:∀{w:List aj}{SO:List ae} (p:Nat),bW w SO->bW (w.take p) (SO.take p)
 |_,_,0,_=>.nil
 |_,_,_+1,.nil=>.nil
 |_,_,p+1,.cons u I=>.cons u (bW.take p I)
theorem bW.drop:∀{w:List aj}{SO:List ae} (p:Nat),bW w SO->bW (w.drop p) (SO.drop p)
 |_,_,0,u=>u
 |_,_,_+1,.nil=>.nil
 |_,_,p+1,.cons _ I=>bW.drop p I
def kT:Option aj->Option ae->Prop
 |some v,Z L=>cc v L
 |none,Y=>True
 |_,_=>False
def fK{SS:Type}:List (SS×aj)->List (SS×ae)->Prop:=(eg λ(q:SS×aj) (r:SS×ae)=>q.1=r.1/\cc q.2 r.2)
def b7:eo->aj
 |.inl a=>.int a
 |.inr d=>.str d
inductive gm where
 | lst (w:List aj)
 | tup (w:List aj)
 | dE (SF:List (eo×aj))|ay (SF:List (List ab×aj))
 | set (SM:Int->Bool) (p:Nat)
 | ins (aO i:af) (aa:List (aD×aj))
 | own (d:af)
 | zr (aa:List (aD×aj))
 | met (x d:af)
 | wN (Q U:Int)
 | ec (n:bj) (L:gm)
 | nj (SJ:Array ae)
 | ext (Sb:a5->Prop)
variable{n:gm}
abbrev ax:=af->Option gm
variable{T m:ax}
def upd(m:ax)(g:af)(n:gm):ax:=(λf=>if f=g then Z n else m f)
def eT:upd m g n g=Z n:=by unfold upd;rw[aJ rfl]
def c2(e:f≠g):upd m g n f=m f:=by unfold upd;rw[aM e]
def zw{L:gm}(e:m g=Z n)(Sq:m f=Z L)(s:n≠L):g≠f:=by
 intro c;subst c;rw[e]at Sq;exact s (Option.some.inj Sq)
def g_(e:m g=Z n)(Sq:m f=Y):g≠f:=by
 intro c;subst c;rw[e]at Sq;cases Sq
mutual
def cD(m:ax):ab->aj->Prop
 |.aV,v=>v=.aV
 |.av f,v=>v=.av f
 |.int a,v=>v=.int a
 |.str d,v=>v=.str d
 |.fn g,v=>v=.ref g
 |.aT J,v=>∃g w n,v=.ref g/\m g=Z (.ec n<|.lst w)/\bM m J w
 |.fd,v=>∃g n,v=.ref g/\m g=Z (.ec n<|.ay [])
 |.tup J,v=>∃g w,v=.ref g/\m g=Z (.tup w)/\bM m J w
def bM(m:ax):List ab->List aj->Prop
 |[],Sp=>Sp=[]
 |s::J,Sp=>∃v u,Sp=v::u/\cD m s v/\bM m J u
end
def rV(m T:ax):Prop:=(∀g w,m g=Z (.tup w)->T g=Z (.tup w))
structure oE(m T:ax):Prop where
 t:rV m T
 z:∀g n L,m g=Z (.ec n L)->T g=Z (.ec n L)
noncomputable instance {m T:ax}:CoeFun (oE m T) (λ_=>∀g w,m g=Z (.tup w)->T g=Z (.tup w)):=⟨λI=>I.t⟩
mutual
theorem cD.mono{m T:ax}(o:oE m T):∀{s:ab}{v:aj},cD m s v->cD T s v
 |.aV,_,c=>c
 |.av _,_,c=>c
 |.int _,_,c=>c
 |.str _,_,c=>c
 |.fn _,_,c=>c
 |.tup J,_,c=>by
  let⟨g,@w,rfl,t,C⟩:=c;exact⟨g,w,rfl,o.t g w t,bM.mono o C⟩
 |.aT J,_,c=>by
  let⟨g,w,@n,rfl,t,C⟩:=c;exact⟨g,w,n,rfl,o.z g _ _ t,bM.mono o C⟩
 |.fd,_,c=>by
  let⟨g,@n,rfl,t⟩:=c;exact⟨g,n,rfl,o.z g _ _ t⟩
theorem bM.mono{m T:ax}(o:oE m T):∀{J:List ab}{Sp:List aj},bM m J Sp->bM T J Sp
 |[],_,c=>c
 |s::J,_,c=>by
  let⟨v,@u,rfl,t,C⟩:=c;exact⟨v,u,rfl,cD.mono o t,bM.mono o C⟩
end
def hM(m:ax)(o:List ab)(f:af):Prop:=(ab.keys 7 o=X/\cD m (.tup o) (.ref f))
mutual
theorem cD.rn{m T:ax}(o:rV m T):∀{s:ab}{p:Nat}{v:aj},ab.key p s=X->cD m s v->cD T s v
 |.aV,_,_,_,c=>c
 |.av _,_,_,_,c=>c
 |.int _,_,_,_,c=>c
 |.str _,_,_,_,c=>c
 |.fn _,_,_,_,c=>c
 |.tup J,p+1,_,r,c=>by
  let⟨g,@w,rfl,t,C⟩:=c;exact⟨g,w,rfl,o g w t,bM.rn o r C⟩
 |.tup J,0,_,r,c=>nomatch r
 |.aT J,0,_,r,c=>nomatch r
 |.aT J,p+1,_,r,c=>nomatch r
 |.fd,0,_,r,c=>nomatch r
 |.fd,p+1,_,r,c=>nomatch r
theorem bM.rn{m T:ax}(o:rV m T):∀{J:List ab}{p:Nat}{Sp:List aj},ab.keys p J=X->bM m J Sp->bM T J Sp
 |[],_,_,_,c=>c
 |s::J,p,_,r,c=>by
  let⟨v,@u,rfl,t,C⟩:=c;rw[ab.keys,cX]at r;exact⟨v,u,rfl,cD.rn o r.1 t,bM.rn o r.2 C⟩
end
def hM.mono{o:List ab}(e:hM m o f)(I:rV m T):hM T o f:=by
 let@⟨a,⟨g,@w,c,t,C⟩⟩:=e;exact⟨a,g,w,c,I g w t,C.rn I a⟩
def l7(e:a5)(g:af)(S:Array ae):Prop:=(∃n,e.get? g=Z n/\(n.cls,n.dict)=(.type "tuple",Y)/\∃p,n.data=.seq S p)
def l7.tup{S:Array ae}(d:l7 e g S):o3 e g S:=let ⟨n,c,h,u⟩:=d;⟨n,c,(Prod.mk.inj h).1,u⟩
def l7.new(e:a5)(S:Array ae):l7 (e.push {cls:=.type "tuple",data:=.seq S}) e.objs.size S:=⟨_,dx _ rfl,rfl,_,rfl⟩
section
variable(R:bA)(l:bk)
def e7(m:ax)(e:a5)(g:af):gm->Prop
 |.lst w=>w.length<=sizeLine/\∃(SG:List ae) (p:Nat),bW w SG/\e.get? g=Z {cls:=.type "list",data:=.seq SG.toArray p}
 |.tup w=>w.length<=sizeLine/\∃SG:List ae,bW w SG/\l7 e g SG.toArray
 |.dE SF=>SF.length<=sizeLine/\(g==iq)=ar/\∃Sp,fK SF Sp/\e.DictOf (mu R l) g Sp
 |.ay SF=>SF.length<=sizeLine/\(g==iq)=ar/\∃w:List (List ab×af×ae),
   eg (λ(q:List ab×aj) (r:List ab×af×ae)=>q.1=r.1/\hM m q.1 r.2.1/\cc q.2 r.2.2) SF w/\
   ∃n Sx Tg,e.get? g=Z n/\n.ExactDict/\n.data=.dict Sx Tg/\Sx.toList=w.map (nV<|gu R l)/\(w.map (·.1)).Nodup
 |.set SM p=>e.SetOf (intKind R l) g SM p
 |.ins aO i aa=>m i=Z (.own g)/\aa.length<=1000/\i≠g/\e.get? g=Z (PySem.W.instObj aO i)/\
   ∃B,e.Ns1 i B/\(∀x,kT (aa.lookup x)<|B x)/\PySem.Within B (aa.map (·.1))
 |.own _=>∃n,e.get? g=Z n
 |.zr aa=>∃B,e.Ns1 g B/\∀x,kT (aa.lookup x) (B x)
 |.wN Q U=>∃I L v,e.get? g=Z {cls:=.type "range",data:=.fields #[.int Q I,.int U L,.int 1 v]}
 |.ec n L=>e.get? g=Z n/\e7 m e g L
 |.nj SJ=>e.get? g=Z {cls:=.none,data:=.fields SJ}
 |.met x d=>e.get? g=Z (Γ (.ref x)<|.ref d)
 |.ext a=>a e/\(∃n,e.get? g=Z n)/\∀t C:a5,a t->(∀n,t.get? g=Z n->C.get? g=Z n)->a C
def eb(m:ax)(e:a5):Prop:=(∀g n,m g=Z n->e7 R l m e g n)
end
section
variable{R:bA}{l:bk}{m T:ax}{e Sq:a5}{g:af}{n:gm}
def e7.lt(d:e7 R l m e g n):g<e.objs.size:=by
 cases n with
 |lst w=>let@⟨_,⟨_,@_,_,c⟩⟩:=d;exact cn c
 |tup w=>let@⟨_,⟨@_,_,q⟩⟩:=d;exact q.tup.lt
 |dE SF=>let@⟨_,_,⟨@_,_,⟨n,_,@_,c,_⟩⟩⟩:=d;exact cn c
 |ay SF=>let@⟨_,_,⟨@_,_,⟨n,_,@_,c,_⟩⟩⟩:=d;exact cn c
 |set SM p=>let⟨n,W,W,@W,c,W⟩:=d;exact cn c
 |ins aO i aa=>let@⟨_,_,_,c,_⟩:=d;exact cn c
 |own y=>let⟨@W,c⟩:=d;exact cn c
 |zr aa=>let⟨@W,⟨W,W,@W,c,W⟩,W⟩:=d;exact cn c
 |wN Q U=>let⟨W,W,@W,c⟩:=d;exact cn c
 |ec a L=>let@⟨c,_⟩:=d;exact cn c
 |nj SJ=>exact cn (show e.get? g=Z _ from d)
 |met x y=>exact cn (show e.get? g=Z _ from d)
 |ext b=>let@⟨_,⟨@_,c⟩,_⟩:=d;exact cn c
theorem eg.so{SU Tx:Type}{N Ss:SU->Tx->Prop}:∀{a:List SU}{b:List Tx},eg N a b->(∀g f,N g f->Ss g f)->eg Ss a b
 |_,_,.nil,_=>.nil
 |_,_,.cons u I,x=>.cons (x _ _ u) (eg.so I x)
def e7.i4(d:e7 R l m e g n)(o:∀f L,(f=g\/m f=Z (.own g))->e.get? f=Z L->Sq.get? f=Z L)(j:∀f,m f=Z (.own g)->T f=Z (.own g))(k:∀f w,m f=Z (.tup w)->T f=Z (.tup w)):e7 R l T Sq g n:=by
 induction n with
 |lst w=>let@⟨a,⟨SG,@p,u,c⟩⟩:=d;exact⟨a,SG,p,u,o _ _ (.inl rfl) c⟩
 |tup w=>let@⟨a,⟨@SG,u,⟨@b,c,h⟩⟩⟩:=d;exact⟨a,SG,u,b,o _ _ (.inl rfl) c,h⟩
 |dE SF=>let@⟨a,y,⟨@Sp,u,⟨b,Sx,@Tg,c,h⟩⟩⟩:=d;exact⟨a,y,Sp,u,b,Sx,Tg,o _ _ (.inl rfl) c,h⟩
 |ay SF=>
  let@⟨a,y,⟨@w,u,⟨b,Sx,@Tg,c,h⟩⟩⟩:=d;exact⟨a,y,w,eg.so u λq r a=>⟨a.1,a.2.1.mono k,a.2.2⟩,b,Sx,Tg,o _ _ (.inl rfl) c,h⟩
 |set SM p=>let⟨b,Sx,Tg,@I,c,h⟩:=d;exact⟨b,Sx,Tg,I,o _ _ (.inl rfl) c,h⟩
 |ins aO i aa=>
  let@⟨s,a,ne,c,⟨@B,⟨H,Sx,@Tg,t,h⟩,u⟩⟩:=d;exact⟨j _ s,a,ne,o _ _ (.inl rfl) c,B,⟨H,Sx,Tg,o _ _ (.inr s) t,h⟩,u⟩
 |own y=>let⟨@b,c⟩:=d;exact⟨b,o _ _ (.inl rfl) c⟩
 |zr aa=>let⟨@B,⟨H,Sx,@Tg,c,h⟩,u⟩:=d;exact⟨B,⟨H,Sx,Tg,o _ _ (.inl rfl) c,h⟩,u⟩
 |wN Q U=>let⟨I,L,@v,c⟩:=d;exact⟨I,L,v,o _ _ (.inl rfl) c⟩
 |ec b L A=>let@⟨c,r⟩:=d;exact⟨o _ _ (.inl rfl) c,A r⟩
 |nj SJ=>
  have c:e.get? g=Z {cls:=.none,data:=.fields SJ}:=d;show Sq.get? g=Z {cls:=.none,data:=.fields SJ};exact o g _ (.inl rfl) c
 |met x y=>
  have c:e.get? g=Z (Γ (.ref x)<|.ref y):=d;show Sq.get? g=Z (Γ (.ref x)<|.ref y);exact o g _ (.inl rfl) c
 |ext C=>let@⟨q,⟨@n,c⟩,z⟩:=d;exact⟨z _ _ q λn r=>o _ _ (.inl rfl) r,⟨n,o _ _ (.inl rfl) c⟩,z⟩
theorem eb.lt(d:eb R l m e)(c:m g=Z n):g<e.objs.size:=(d g n c).lt
def eb.fresh(d:eb R l m e)(c:e.objs.size<=g):m g=Y:=by
 cases r:m g with
 |none=>rfl
 |some L=>exact absurd (eX (d.lt r) c) (jx _)
def eb.kept(d:eb R l m e)(o:∀f L,e.get? f=Z L->Sq.get? f=Z L):eb R l m Sq:=λg n c=>
 (d g n c).i4 (λf L W r=>o f L r) (λ_ r=>r) λ_ W r=>r
def eb.laid(d:eb R l m e)(o:∀f L,e.get? f=Z L->Sq.get? f=Z L)(i:e.objs.size<=g)(new:e7 R l (upd m g n) Sq g n):eb R l (upd m g n) Sq:=λf L c=>by
 have a:=d.fresh i;by_cases b:f=g
 ·subst b;rw[eT]at c;cases c;exact new
 ·rw[c2 b]at c;exact (d f L c).i4 (λh v W r=>o h v r) (λh r=>by rw[c2 (g_ r a)];exact r) λh w r=>by rw[c2 (g_ r a)];exact r
end
def kU(m:ax)(g:af)(L:gm):Prop:=(m g=Z L\/∃n,m g=Z (.ec n L))
def kU.ok{L:gm}(u:kU m g L)(d:eb R l m e):e7 R l m e g L:=by
 rcases u with u|⟨n,u⟩
 ·exact d g L u
 ·let@⟨_,r⟩:=d g _ u;exact r
def q8:Option gm->Prop
 |some (.lst _)=>True
 |some (.dE _)=>True
 |some (.ay _)=>True
 |some (.set _ _)=>True
 |some (.ins _ _ _)=>True
 |some (.ext _)=>True
 |_=>False
section
variable{R:bA}{l:bk}{m:ax}{e Sq:a5}{d c:af}{S7:gm}
def eb.write(ok:eb R l m e)(a:q8 (m d))(j:c=d\/m c=Z (.own d))(o:∀f L,f≠c->e.get? f=Z L->Sq.get? f=Z L)(p:∃L,Sq.get? c=Z L)(new:e7 R l (upd m d S7) Sq d S7):eb R l (upd m d S7) Sq:=λf L r=>by
 have k:∀h y,m h=Z (.own y)->h≠d:=λh y u z=>by subst z;rw[u]at a;exact a
 have q:∀h w,m h=Z (.tup w)->h≠d:=λh w u z=>by subst z;rw[u]at a;exact a
 by_cases b:f=d
 ·subst b;rw[eT]at r;cases r;exact new
 ·rw[c2 b]at r;by_cases g:f=c
  ·have n:m f=Z (.own d):=by
    rcases j with z|z
    ·exact absurd (g.trans z) b
    ·rw[g];exact z
   rw[r]at n;cases n;let⟨@v,s⟩:=p;exact⟨v,by rw[g];exact s⟩
  ·refine (ok f L r).i4 (λh v i u=>o h v ?_ u) (λh u=>by rw[c2 (k h f u)];exact u) λh w u=>by rw[c2 (q h w u)];exact u
   rcases i with rfl|i
   ·exact g
   ·rintro rfl;rcases j with z|z
    ·exact k h f i z
    ·rw[i]at z;cases z;exact b rfl
end
structure fa(aa Th:List af)(m T:ax)(e Sq:a5):Prop where
 keep:∀f n,e.get? f=Z n->m f=Y->f∉aa->f∉Th->Sq.get? f=Z n
 slot:∀f n,e.get? f=Z n->m f=Y->f∈aa->f∉Th->∃aQ,Sq.get? f=Z {n with slots:=aQ}
 free:∀f n,e.get? f=Z n->m f=Y->f∉Th->T f=Y
 there:∀f n,e.get? f=Z n->f∉Th->∃S7,Sq.get? f=Z S7
 kk:∀f w,m f=Z (.tup w)->T f=Z (.tup w)
 j9:∀f n L,m f=Z (.ec n L)->T f=Z (.ec n L)
 lF:∀f SJ,m f=Z (.nj SJ)->∃more,T f=Z (.nj<|SJ++more)
section
variable{aa k Th b:List af}{m SD SP:ax}{e t C Sq:a5}{g d c:af}{n:gm}
def fa.any(L:fa aa Th m SD e t){f:af}{a:bj}(r:e.get? f=Z a)(p:m f=Y)(b:f∉Th):∃aQ,t.get? f=Z {a with slots:=aQ}:=by
 by_cases c:f∈aa
 ·exact L.slot f a r p c b
 ·exact⟨a.slots,L.keep f a r p c b⟩
def fa.kept(o:∀f L,e.get? f=Z L->Sq.get? f=Z L):fa aa Th m m e Sq:=
 ⟨λf a r W W W=>o f a r,λf a r W W W=>⟨a.slots,o f a r⟩,λ_ W W p W=>p,λf a r W=>⟨a,o f a r⟩,λ_ W r=>r,λ_ W W r=>r,λ_ SJ r=>⟨#[],by rw[r];simp⟩⟩
def fa.refl:fa aa Th m m e e:=fa.kept λ_ W r=>r
theorem fa.laid(o:∀f L,e.get? f=Z L->Sq.get? f=Z L)(b:e.objs.size<=g)(a:m g=Y):fa aa Th m (upd m g n) e Sq where
 keep:=λf L r W W W=>o f L r
 slot:=λf L r W W W=>⟨L.slots,o f L r⟩
 free:=λf L r p W=>by rw[c2 (dU<|eX (cn r) b)];exact p
 there:=λf L r W=>⟨L,o f L r⟩
 kk:=λf w r=>by rw[c2 (g_ r a)];exact r
 j9:=λf L w r=>by rw[c2 (g_ r a)];exact r
 lF:=λf SJ r=>⟨#[],by rw[c2 (g_ r a),r];simp⟩
def fa.write(b:q8 (m d))(k:c=d\/m c=Z (.own d))(o:∀f L,f≠c->e.get? f=Z L->Sq.get? f=Z L)(l:∃L,Sq.get? c=Z L):fa aa Th m (upd m d n) e Sq:=by
 have h:∀f,m f=Y->f≠d:=λf p a=>by subst a;rw[p]at b;exact b
 have i:∀f,m f=Y->f≠c:=λf p a=>by
  subst a;rcases k with u|u
  ·exact h f p u
  ·rw[p]at u;cases u
 have g:∀f L,m f=Z L->¬ q8 (Z L)->f≠d:=λf L r B a=>by subst a;rw[r]at b;exact B b
 refine⟨λf L r p W W=>o f L (i f p) r,λf L r p W W=>⟨L.slots,o f L (i f p) r⟩,λf L r p W=>by rw[c2 (h f p)];exact p,λf L r W=>?_,
  λf w r=>by rw[c2 (g f _ r λa=>a)];exact r,λf L w r=>by rw[c2 (g f _ r λa=>a)];exact r,λf SJ r=>⟨#[],by rw[c2 (g f _ r λa=>a),r];simp⟩⟩;by_cases j:f=c
 ·subst j;exact l
 ·exact⟨L,o f L j r⟩
end
def tB(e:a5)(m:ax):List af:=((range e.objs.size).filter λg=>(m g).isSome)
def kW(e:a5)(m:ax):a5:=(PySem.W.hideAll e (tB e m))
def Lz(e:a5)(m:ax):(kW e m).objs.size=e.objs.size:=PySem.W.hideAll_size _ _
def Pb{n:bj}(c:e.get? f=Z n)(p:m f=Y):(kW e m).get? f=Z n:=
 PySem.W.hideAll_get _ c λa=>by
  have r:(m f).isSome=X:=(gv.mp a).2;rw[p]at r;simp at r
def LH{n:bj}(c:(kW e m).get? f=Z n):e.get? f=Z n/\m f=Y:=by
 have a:e.get? f=Z n:=PySem.W.of_hideAll (tB e m) c;refine⟨a,?_⟩;cases r:m f with
 |none=>rfl
 |some d=>
  have b:f∈tB e m:=gv.mpr ⟨gr.mpr<|cn a,by simp[r]⟩;have g:(kW e m).get? f=Y:=PySem.W.hideAll_none (tB e m) b;rw[g]at c;cases c
def Mc(M e:a5)(SE:af):List (af×bj):=((range e.objs.size).filterMap λg=>if g=SE\/(M.get? g).isSome=X then Y else (e.get? g).map λn=>(g,n))
def dh(M e:a5)(SE s:af):List (af×bj):=((Mc M e SE).filter λq=>decide (q.1≠s))
structure Mod(So:Φ)(az:aD->Option ae)(SA:a5):Prop where
 sl:So.In SA
 glob:SA.Ns dJ az
 blt:∃Bf,SA.Ns t6 Bf/\∀d:aD,d ≠ "__name__" -> Bf d=e8 d
 nolimit:SA.NoLimit
structure aL where
 prog:bA
 w:bk
 K:Φ
 az:aD->Option ae
 base:a5
 A:bw
 N:List aD
 eZ:ao
 o4:ax
 env:eL
 outer:List eL
 stack:List eL
 ex:List af
 fn:aD->Bool
 calm:Bool
 kQ:List (af×bj)
 cU:ae->ao->Prop
variable{b:aL}
def h8(k:List eL):List af:=(k.filterMap (·.frame))
abbrev aL.aa(b:aL):List af:=h8 b.outer
def tq(E:gE)(d:aD):Prop:=(E.names.lookup d=Z .local\/E.names.lookup d=Z .cell\/E.names.lookup d=Z .free)
def kc(E:gE)(d:aD):Prop:=(E.names.lookup d=Z .local\/E.names.lookup d=Z .cell)
def IH(Sw:eL)(e:a5)(H:aD->Option ae)(d:aD)(L:ae):Prop:=(
 (Sw.kindOf d=Z .local/\H d=Z L)\/((Sw.kindOf d=Z .cell\/Sw.kindOf d=Z .free)/\∃h,Sw.cells.lookup d=Z h/\e.IsCell h (Z L)))
structure aL.Ok(b:aL):Prop where
 mod:Mod b.K b.az b.base
 kind:b.env.scope.kind=.function
 glob:b.env.globals=dJ
 blt:b.env.builtins=t6
 above:b.eZ.heap.objs.size<=b.env.locals
 inj:∀d y h,b.env.cells.lookup d=Z h->b.env.cells.lookup y=Z h->d=y
 has:∀d,(b.env.kindOf d=Z .cell\/b.env.kindOf d=Z .free)->∃h,b.env.cells.lookup d=Z h
 pl:∀d h,b.fn d=X->b.env.cells.lookup d=Z h->b.eZ.heap.objs.size<=h
 hd:b.calm=X->b.A.handled=Y
 frames:b.A.frames=Z b.stack
 r4:b.stack=b.outer\/(b.stack=b.env::b.outer/\b.env.frame=Z b.env.locals)
 yP:∀f∈b.ex,f≠b.env.locals/\∀d h,b.env.cells.lookup d=Z h->h≠f
 bs:∀f n,b.base.get? f=Z n->b.eZ.heap.get? f=Z n/\b.o4 f=Y
 kY:b.base.objs.size<=b.eZ.heap.objs.size
 oQ:∀f n,b.base.get? f=Z n->f∉b.ex
 pX:∀f∈b.ex,f∉b.aa
 iO:b.eZ.heap.FunFrames b.base b.outer
 ny:∀f∈b.aa,b.o4 f=Y
structure aH(b:aL)(G:List (af×bj))(A:List (Option aj))(m:ax)(j:ao):Prop where
 ok:b.Ok
 os:j.os=b.eZ.os
 bare:lr j.gens
 base:fa b.aa b.ex b.o4 m b.eZ.heap j.heap
 loc:∃H,j.heap.Ns b.env.locals H/\∀(a:Nat) (d:aD) (v:aj),b.N[a]?=Z d->A[a]?=Z (Z v)->tq b.env.scope d->∃L,cc v L/\IH b.env j.heap H d L
 cell:∀d h,b.env.cells.lookup d=Z h->∃v,j.heap.IsCell h v
 free:m b.env.locals=Y
 jt:∀d h,b.env.cells.lookup d=Z h->m h=Y
 pin:∀q∈b.kQ++G,j.heap.get? q.1=Z q.2/\m q.1=Y/\q.1≠b.env.locals/\q.1∉b.aa/\∀v,q.2.data≠.cell v
 aY:eb b.prog b.w m j.heap
 len:A.length=b.N.length
section
variable{b:aL}{G:List (af×bj)}{A:List (Option aj)}{m T:ax}{j:ao}{Sq:a5}
def aL.Ok.Mh(ok:b.Ok){f:af}{n:bj}(c:b.base.get? f=Z n):f∉b.aa:=λa=>by
 have:=(ok.iO.mem a).1;rw[c]at this;cases this
def aH.bs(E:aH b G A m j):∀f n,b.base.get? f=Z n->j.heap.get? f=Z n/\m f=Y:=λf n c=>
 ⟨E.base.keep f n (E.ok.bs f n c).1 (E.ok.bs f n c).2 (E.ok.Mh c) (E.ok.oQ f n c),E.base.free f n (E.ok.bs f n c).1 (E.ok.bs f n c).2 (E.ok.oQ f n c)⟩
def aH.e1(E:aH b G A m j):∀f n,b.base.get? f=Z n->j.heap.get? f=Z n:=λf n c=>(E.bs f n c).1
def aH.mod(E:aH b G A m j):Mod b.K b.az b.base:=E.ok.mod
def aH.m5(E:aH b G A m j):b.K.In j.heap:=E.ok.mod.sl.keeps E.e1
def aH.lt(E:aH b G A m j):b.env.locals<j.heap.objs.size:=let ⟨_,a,_⟩:=E.loc;a.lt
def aH.kf(E:aH b G A m j):b.eZ.heap.objs.size<=j.heap.objs.size:=ew E.ok.above (rN E.lt)
def aH.O8(E:aH b G A m j){g:af}(e:j.heap.objs.size<=g):g∉b.aa:=λa=>by
 let@⟨_,⟨@n,c,_⟩⟩:=E.ok.iO.mem a;exact absurd (eX (cn c)<|ew E.kf e) (jx _)
def aH.m6(E:aH b G A m j):∀d h,b.env.cells.lookup d=Z h->h≠b.env.locals:=λd h c e=>by
 let⟨v,@n,a,hd⟩:=E.cell d h c;let⟨@H,⟨S7,Sx,@Tg,f,g,W⟩,W⟩:=E.loc;rw[e,f]at a;cases a;rw[g]at hd;cases hd
def aH.iO(E:aH b G A m j):j.heap.FunFrames b.base b.outer:=by
 have all:∀(k:List eL),(∀f∈h8 k,f∈b.aa)->b.eZ.heap.FunFrames b.base k->j.heap.FunFrames b.base k:=by
  intro k;induction k with
  |nil=>intro W W;trivial
  |cons Sw u h=>
   intro g i;let@⟨l,⟨SE,@n,a,o,p,hd⟩,q⟩:=i;have d:SE∈b.aa:=g SE (by unfold h8;rw[xw,a];exact kF);let⟨@aQ,c⟩:=E.base.slot SE n p (E.ok.ny SE d) d λr=>E.ok.pX SE r d;exact⟨l,⟨SE,_,a,o,c,hd⟩,h (λf e=>g f (by unfold h8;rw[xw,a];exact kB _ e)) q⟩
 exact all b.outer (λ_ e=>e) E.ok.iO
def aH.stack(E:aH b G A m j):j.heap.FunFrames b.base b.stack:=by
 rcases E.ok.r4 with c|⟨c,a⟩
 ·rw[c];exact E.iO
 ·rw[c];let⟨@H,d,W⟩:=E.loc;refine .cons (by rw[E.ok.kind];decide) a d ?_ E.iO;exact xm (ew E.ok.kY E.ok.above)
def aH.vV(E:aH b G A m j):∀f∈h8 b.stack,f∈b.env.locals::b.aa:=λf a=>by
 rcases E.ok.r4 with c|⟨c,d⟩
 ·rw[c]at a;exact kB _ a
 ·rw[c]at a;unfold h8 at a;rw[xw,d]at a;exact a
def aH.DU(E:aH b G A m j):∀f∈h8 b.stack,m f=Y:=λf a=>by
 rcases cq.mp (E.vV f a) with c|a
 ·rw[c];exact E.free
 ·let@⟨_,⟨@n,d,_⟩⟩:=E.ok.iO.mem a;exact E.base.free f n d (E.ok.ny f a) λe=>E.ok.pX f e a
def aH.step{D:Array pP}{S5:Nat}{R:Drawn}{TB:List af}(E:aH b G A m j)(x:∀f∈TB,(f∈b.ex\/b.eZ.heap.objs.size<=f)/\f≠b.env.locals/\(∀d h,b.env.cells.lookup d=Z h->h≠f)/\∀q∈b.kQ++G,q.1≠f)(keep:∀f n,f≠b.env.locals->f∉b.aa->f∉TB->j.heap.get? f=Z n->m f=Y->Sq.get? f=Z n)(F:∀f n,f≠b.env.locals->f∈b.aa->f∉TB->j.heap.get? f=Z n->m f=Y->∃aQ,Sq.get? f=Z {n with slots:=aQ})(free:∀f n,f∉TB->j.heap.get? f=Z n->m f=Y->T f=Y)(S:∀f n,f∉TB->j.heap.get? f=Z n->∃S7,Sq.get? f=Z S7)(kk:∀f w,m f=Z (.tup w)->T f=Z (.tup w))(j9:∀f n L,m f=Z (.ec n L)->T f=Z (.ec n L))(lF:∀f SJ,m f=Z (.nj SJ)->∃U,T f=Z (.nj<|SJ++U))(Q:∀H,j.heap.Ns b.env.locals H->Sq.Ns b.env.locals H)(aY:eb b.prog b.w T Sq)(al:lr D):
  aH b G A T {j with heap:=Sq,gens:=D,drawn:=R,toks:=S5}:=by
 have I:∀f n,b.eZ.heap.get? f=Z n->f≠b.env.locals:=λf n c=>dU (eX (cn c) E.ok.above);have C:∀f n,b.eZ.heap.get? f=Z n->f∉b.ex->f∉TB:=λf n c e i=>by
  rcases (x f i).1 with z|z
  ·exact e z
  ·exact absurd (eX (cn c) z) (jx _)
 have J:∀d h,b.env.cells.lookup d=Z h->∀v,j.heap.IsCell h v->Sq.IsCell h v:=λd h c v ⟨n,t,hd⟩=>by
  have y:h∉TB:=λz=>(x h z).2.2.1 d h c rfl;by_cases M:h∈b.aa
  ·let⟨@aQ,r⟩:=F h n (E.m6 d h c) M y t (E.jt d h c);exact⟨_,r,hd⟩
  ·exact⟨n,keep h n (E.m6 d h c) M y t<|E.jt d h c,hd⟩
 refine⟨E.ok,E.os,al,⟨λf n c p i e=>?_,λf n c p i e=>?_,λf n c p e=>?_,λf n c e=>?_,λf w c=>kk f w<|E.base.kk f w c,λf n w c=>j9 f n w<|E.base.j9 f n w c,λf SJ c=>?_⟩,?_,λd h c=>?_,?_,λd h c=>?_,λq N=>?_,aY,E.len⟩
 ·exact keep f n (I f n c) i (C f n c e) (E.base.keep f n c p i e) (E.base.free f n c p e)
 ·let⟨@aQ,g⟩:=E.base.slot f n c p i e;let⟨@am,B⟩:=F f _ (I f n c) i (C f n c e) g (E.base.free f n c p e);exact⟨am,B⟩
 ·let⟨@S7,g⟩:=E.base.there f n c e;exact free f S7 (C f n c e) g (E.base.free f n c p e)
 ·let⟨@S7,g⟩:=E.base.there f n c e;exact S f S7 (C f n c e) g
 ·let⟨@an,g⟩:=E.base.lF f SJ c;let⟨@ap,B⟩:=lF f _ g;exact⟨an++ap,by rw[B,Array.append_assoc]⟩
 ·let⟨@H,as,a1⟩:=E.loc;refine⟨H,Q H as,λa d v g B a2=>?_⟩;let⟨@L,u,k⟩:=a1 a d v g B a2;refine⟨L,u,?_⟩;rcases k with k|⟨o,h,c,z⟩
  ·exact .inl k
  ·exact .inr ⟨o,h,c,J d h c _ z⟩
 ·let⟨@v,z⟩:=E.cell d h c;exact⟨v,J d h c v z⟩
 ·let⟨@H,⟨n,W,@W,t,W⟩,W⟩:=E.loc;exact free _ n (λz=>(x _ z).2.1 rfl) t E.free
 ·let⟨v,@n,t,hd⟩:=E.cell d h c;exact free h n (λz=>(x h z).2.2.1 d h c rfl) t (E.jt d h c)
 ·let@⟨c,p,ne,O,s⟩:=E.pin q N;have y:q.1∉TB:=λz=>(x q.1 z).2.2.2 q N rfl;exact⟨keep q.1 q.2 ne O y c p,free q.1 q.2 y c p,ne,O,s⟩
def aH.un(E:aH b G A m j)(L:fa b.aa [] m T j.heap Sq)(aY:eb b.prog b.w T Sq):aH b G A T {j with heap:=Sq,toks:=S5}:=by
 let⟨@H,⟨n,Sx,@Tg,d,u⟩,W⟩:=id E.loc;let⟨@aQ,g⟩:=L.any d E.free ↥0;exact E.step (D:=j.gens) (R:=j.drawn) (TB:=[]) (λ_ h=>nomatch h) (λf n W a W c p=>L.keep f n c p a ↥0) (λf n W a W c p=>L.slot f n c p a ↥0) (λf n W c p=>L.free f n c p ↥0) (λf n W c=>L.there f n c ↥0) L.kk L.j9 L.lF (λs i=>by
  let⟨S7,k,@o,e,Ti⟩:=i;rw[d]at e;cases e;exact⟨_,k,o,g,Ti⟩) aY E.bare
def aH.call{i:Array pP}{s:Drawn}(E:aH b G A m j)(L:fa (h8 b.stack) TB m T j.heap Sq)(aY:eb b.prog b.w T Sq)(t:lr i)(k:∀f∈TB,(f∈b.ex\/b.eZ.heap.objs.size<=f)/\f≠b.env.locals/\(∀d h,b.env.cells.lookup d=Z h->h≠f)/\∀q∈b.kQ++G,q.1≠f):
  aH b G A T {j with heap:=Sq,gens:=i,drawn:=s,toks:=S5}:=by
 let⟨@H,⟨n,Sx,@Tg,o,u⟩,W⟩:=id E.loc;let⟨@aQ,e⟩:=L.any o E.free λg=>(k _ g).2.1 rfl;exact E.step (TB:=TB) k (λf n e v a c p=>L.keep f n c p (λg=>(cq.mp<|E.vV f g).elim e v) a) (λf n W W a c p=>L.any c p a) (λf n a c p=>L.free f n c p a) (λf n a c=>L.there f n c a) L.kk L.j9 L.lF (λB x=>by
  let⟨S7,y,@z,r,Ti⟩:=x;rw[o]at r;cases r;exact⟨_,y,z,e,Ti⟩) aY t
def aH.turned{it:af}(E:aH b G A m j)(o:∀f n,f≠it->j.heap.get? f=Z n->Sq.get? f=Z n)(i:m it=Y)(e:it≠b.env.locals)(t:it∈b.ex\/b.eZ.heap.objs.size<=it)(C:∀d h,b.env.cells.lookup d=Z h->h≠it)(k:∀q∈b.kQ++G,q.1≠it):aH b G A m {j with heap:=Sq,toks:=S5}:=by
 have g:∀f L,m f=Z L->f≠it:=λf L c z=>by rw[z,i]at c;cases c
 refine E.step (D:=j.gens) (R:=j.drawn) (TB:=[it]) (λf l=>?_) (λf n W W a c W=>o f n (λz=>a (by simp[z])) c) (λf n W W a c W=>⟨n.slots,o f n (λz=>a (by simp[z])) c⟩) (λ_ W W W p=>p)
  (λf n a c=>⟨n,o f n (λz=>a (by simp[z])) c⟩) (λ_ W c=>c) (λ_ W W c=>c) (λf SJ c=>⟨#[],by rw[c];simp⟩) (λH s=>?_) (λf L c=>?_) E.bare
 ·have c:f=it:=by simpa using l
  subst c;exact⟨t,e,C,k⟩
 ·let⟨n,Sx,@Tg,w,u⟩:=s;exact⟨n,Sx,Tg,o _ n (fP e) w,u⟩
 ·refine (E.aY f L c).i4 (λh v a r=>o h v ?_ r) (λ_ r=>r) λ_ W r=>r;rcases a with z|z
  ·rw[z];exact g f L c
  ·exact g h _ z
def aH.tok(E:aH b G A m j)(I:Nat):aH b G A m {j with toks:=I}:=E.un (Sq:=j.heap) (S5:=I) fa.refl E.aY
def aH.kept(E:aH b G A m j)(o:∀f L,j.heap.get? f=Z L->Sq.get? f=Z L):aH b G A m {j with heap:=Sq,toks:=S5}:=E.un (fa.kept o) (E.aY.kept o)
def aH.laid(E:aH b G A m j)(o:∀f L,j.heap.get? f=Z L->Sq.get? f=Z L)(a:j.heap.objs.size<=g)(new:e7 b.prog b.w (upd m g n) Sq g n):
  aH b G A (upd m g n) {j with heap:=Sq,toks:=S5}:=E.un (fa.laid o a<|E.aY.fresh a) (E.aY.laid o a new)
def aH.write{d c:af}(E:aH b G A m j)(a:q8 (m d))(e:c=d\/m c=Z (.own d))(o:∀f L,f≠c->j.heap.get? f=Z L->Sq.get? f=Z L)(g:∃L,Sq.get? c=Z L)(new:e7 b.prog b.w (upd m d n) Sq d n):aH b G A (upd m d n) {j with heap:=Sq,toks:=S5}:=E.un (fa.write a e o g) (E.aY.write a e o g new)
def aH.weak{c:List (Option aj)}(E:aH b G A m j)(e:c.length=A.length)(l:∀(a:Nat) v,c[a]?=Z (Z v)->A[a]?=Z (Z v)):aH b G c m j:=
 ⟨E.ok,E.os,E.bare,E.base,let ⟨H,f,g⟩:=E.loc;⟨H,f,λa d v h i k=>g a d v h (l a v i) k⟩,E.cell,E.free,E.jt,E.pin,E.aY,e.trans E.len⟩
def aH.pV{a:List (af×bj)}(E:aH b G A m j)(e:∀q∈a,j.heap.get? q.1=Z q.2/\m q.1=Y/\q.1≠b.env.locals/\q.1∉b.aa/\∀v,q.2.data≠.cell v):aH b a A m j:=
 ⟨E.ok,E.os,E.bare,E.base,E.loc,E.cell,E.free,E.jt,λq c=>(dt.mp c).elim (λd=>E.pin q<|dK _ d)<|e q,E.aY,E.len⟩
def BF(b:SY.Nodup){a i:Nat}{d:aD}(g:SY[a]?=Z d)(f:SY[i]?=Z d):a=i:=by
 let⟨@t,c⟩:=fX.mp g;let⟨@C,e⟩:=fX.mp f;exact (xJ b).mp (c.trans e.symm)
variable{D:Unit->ao->Prop}
def EY{aA:hp}(E:aH b G A m j)(a2:b.N.Nodup)(U:b.N[a]?=Z d)(F:kc b.env.scope d)(u:cc v L)(e:∀Sr,aH b G (A.set a<|Z v) m Sr->(∃g,a5.SameBut g j.heap Sr.heap/\(g=b.env.locals\/b.env.cells.lookup d=Z g))->D () Sr)(ca:b.fn d=X\/b.env.scope.names.lookup d=Z .local:=by first|exact .inl rfl|exact .inr rfl|assumption):wpAny aA O (storeName b.env d L) D Sv j:=by
 let⟨@H,T,bd⟩:=id E.loc;have cd:(b.env.scope.kind==.class || (b.env.scope.kind==.module&&b.env.locals != b.env.globals))=ar:=by rw[E.ok.kind];rfl
 have be:a<A.length:=by rw[E.len];exact (fX.mp U).1
 have m6:=E.m6;have bi:∀{g:af}{Sq:a5},(∃n,j.heap.get? g=Z n/\m g=Y)->a5.SameBut g j.heap Sq->eb b.prog b.w m Sq:=λ{g Sq} ce x f ch c=>by
  let⟨@W,W,bm⟩:=ce;refine (E.aY f ch c).i4 (λh R C r=>(x.2 h ?_).trans r) (λ_ r=>r) λ_ W r=>r;rintro rfl;rcases C with rfl|C
  ·rw[bm]at c;cases c
  ·rw[bm]at C;cases C
 rcases F with J|J
 ·refine wpAny_storeName_local J T (λSq ci x=>?_) cd;let⟨cl,W,@W,co,W⟩:=id T;refine e _ ⟨E.ok,E.os,E.bare,⟨λf n c p M F=>?_,λf n c p M F=>?_,E.base.free,λf n c F=>?_,E.base.kk,E.base.j9,E.base.lF⟩,⟨_,ci,λi y al B I am=>?_⟩,λy h c=>?_,E.free,E.jt,λq an=>?_,bi ⟨cl,co,E.free⟩ x,by simpa using E.len⟩ ⟨_,x,.inl rfl⟩
  ·exact (x.2 f<|dU<|eX (cn c) E.ok.above).trans (E.base.keep f n c p M F)
  ·let⟨@aQ,B⟩:=E.base.slot f n c p M F;exact⟨aQ,(x.2 f<|dU<|eX (cn c) E.ok.above).trans B⟩
  ·let⟨@S7,B⟩:=E.base.there f n c F;exact⟨S7,(x.2 f<|dU<|eX (cn c) E.ok.above).trans B⟩
  ·by_cases Q:i=a
   ·subst Q;rw[U]at B;cases B;rw[sg be]at I;cases I;exact⟨L,u,.inl ⟨J,by simp⟩⟩
   ·rw[nJ (fP Q)]at I;let⟨@ap,Ti,r⟩:=bd i y al B I am;refine⟨ap,Ti,?_⟩;rcases r with ⟨o,c⟩|⟨o,h,c,z⟩
    ·refine .inl ⟨o,?_⟩;have:y≠d:=λc=>Q (BF a2 B<|c ▸ U);simp[this,c]
    ·exact .inr ⟨o,h,c,z.sameBut x<|m6 y h c⟩
  ·let⟨@R,z⟩:=E.cell y h c;exact⟨R,z.sameBut x<|m6 y h c⟩
  ·let@⟨c,p,ne,as,s⟩:=E.pin q an;exact⟨(x.2 q.1 ne).trans c,p,ne,as,s⟩
 ·have a1:b.fn d=X:=by
   rcases ca with z|z
   ·exact z
   ·rw[z]at J;cases J
  let⟨@h,C⟩:=E.ok.has d (.inl J);let⟨@R,z⟩:=E.cell d h C;refine wpAny_storeName_cell E.ok.kind J C z (λSq bn x=>?_);let⟨@t,bs,cr⟩:=id z;refine e {j with heap:=Sq} ⟨E.ok,E.os,E.bare,⟨λf n c p M F=>?_,λf n c p M F=>?_,E.base.free,λf n c F=>?_,E.base.kk,E.base.j9,E.base.lF⟩,⟨H,T.sameBut x<|fP<|m6 d h C,λi y al B I am=>?_⟩,λy S c=>?_,E.free,E.jt,λq an=>?_,bi ⟨t,bs,E.jt d h C⟩ x,by simpa using E.len⟩ ⟨h,x,.inr C⟩
  ·exact (x.2 f<|dU<|eX (cn c)<|E.ok.pl d h a1 C).trans (E.base.keep f n c p M F)
  ·let⟨@aQ,B⟩:=E.base.slot f n c p M F;exact⟨aQ,(x.2 f<|dU<|eX (cn c)<|E.ok.pl d h a1 C).trans B⟩
  ·let⟨@S7,B⟩:=E.base.there f n c F;exact⟨S7,(x.2 f<|dU<|eX (cn c)<|E.ok.pl d h a1 C).trans B⟩
  ·by_cases Q:i=a
   ·subst Q;rw[U]at B;cases B;rw[sg be]at I;cases I;exact⟨L,u,.inr ⟨.inl J,h,C,bn⟩⟩
   ·rw[nJ (fP Q)]at I;let⟨@ap,Ti,r⟩:=bd i y al B I am;refine⟨ap,Ti,?_⟩;rcases r with r|⟨o,S,c,cs⟩
    ·exact .inl r
    ·refine .inr ⟨o,S,c,cs.sameBut x ?_⟩;rintro rfl;exact Q (BF a2 B<|E.ok.inj _ _ _ c C ▸ U)
  ·by_cases bv:S=h
   ·subst bv;exact⟨_,bn⟩
   ·let⟨@db,ds⟩:=E.cell y S c;exact⟨db,ds.sameBut x bv⟩
  ·let@⟨c,p,ne,as,s⟩:=E.pin q an;refine⟨(x.2 q.1 ?_).trans c,p,ne,as,s⟩;intro r;rw[r,bs]at c;have dL:t=q.2:=Option.some.inj c;exact s R (by rw[<-dL];exact cr)
def BM{aA:hp}(E:aH b G A m j)(c:b.N.Nodup)(U:b.N[a]?=Z d)(f:kc b.env.scope d)(u:cc v L)(e:∀Sr,aH b G (A.set a<|Z v) m Sr->D () Sr)(g:b.fn d=X\/b.env.scope.names.lookup d=Z .local:=by first|exact .inl rfl|exact .inr rfl|assumption):wpAny aA O (storeName b.env d L) D Sv j:=
 EY E c U f u (λSr h W=>e Sr h) g
def aH.Oi(E:aH b G A m j)(g:Sr.os=j.os)(L:fa (h8 b.stack) TB m T j.heap Sr.heap)(aY:eb b.prog b.w T Sr.heap)(i:lr Sr.gens)(k:∀f∈TB,(f∈b.ex\/b.eZ.heap.objs.size<=f)/\f≠b.env.locals/\(∀d h,b.env.cells.lookup d=Z h->h≠f)/\∀q∈b.kQ++G,q.1≠f):aH b G A T Sr:=by
 let⟨Sq,a,e,S5,S7⟩:=Sr;have c:S7=j.os:=g;subst c;exact E.call (i:=a) (S5:=S5) (s:=e) L aY i k
end
abbrev gk:=ae->Option af->ax->Prop
abbrev a3:=List (Option aj)
variable{A:a3}
abbrev cI:=aj->ax->Prop
abbrev b5:=a3->ax->cI->Prop
variable{TA:b5}
abbrev ek:=a3->ax->(Bool->ax->Prop)->Prop
variable{TN:ek}
abbrev fb:=a3->ax->(List aj->ax->Prop)->Prop
structure nY where
 bo:a3->ax->Prop
 es:cI
 e1:a3->ax->Prop:=λ_ _=>False
 b3:a3->ax->Prop:=λ_ _=>False
abbrev e6:=nY->a3->ax->Prop
variable{Tv:e6}
def eO(b:aL)(G:List (af×bj))(A:a3)(D:cI)(L:ae)(Sr:ao):Prop:=(∃v T,aH b G A T Sr/\cc v L/\D v T)
def t2(b:aL)(G:List (af×bj))(A:a3)(D:Bool->ax->Prop)(f:Bool)(Sr:ao):Prop:=(∃T,aH b G A T Sr/\D f T)
def Qs(b:aL)(G:List (af×bj))(A:a3)(D:List aj->ax->Prop)(SO:List ae)(Sr:ao):Prop:=(∃Sp T,aH b G A T Sr/\bW Sp SO/\D Sp T)
def oe(b:aL)(G:List (af×bj))(B:nY)(x:Flow)(Sr:ao):Prop:=(
 match x with
 |.next=>∃a T,aH b G a T Sr/\B.bo a T
 |.brk=>∃a T,aH b G a T Sr/\B.e1 a T
 |.cont=>∃a T,aH b G a T Sr/\B.b3 a T
 |.ret L=>∃v a T,aH b G a T Sr/\cc v L/\B.es v T)
def xF(b:aL)(c:bu)(I:b5)(G:List (af×bj)):Prop:=(
 ∀(j:ao) (A:a3) (m:ax) (D:cI),aH b G A m j->I A m D->wpAny (aS b.prog b.w) b.A (ck c b.env) (eO b G A D) b.cU j)
def bN(b:aL)(c:bu)(I:b5):Prop:=(∀G,xF b c I G)
def Fg(b:aL)(c:bu)(I:ek)(G:List (af×bj)):Prop:=(
 ∀(j:ao) (A:a3) (m:ax) (D:Bool->ax->Prop),aH b G A m j->I A m D->wpAny (aS b.prog b.w) b.A (om c b.env<|ck c b.env) (t2 b G A D) b.cU j)
def ho(b:aL)(c:bu)(I:ek):Prop:=(∀G,Fg b c I G)
def Ck(b:aL)(c:bu)(I:ek)(a:dR ae):Prop:=(
 ∀(G:List (af×bj)) (j:ao) (A:a3) (m:ax) (D:Bool->ax->Prop),aH b G A m j->I A m D->wpAny (aS b.prog b.w) b.A (om c b.env a) (t2 b G A D) b.cU j)
def jT(b:aL)(c:bu)(I:ek):Prop:=(∀a,Ck b c I a)
def jT.pt{b:aL}{c:bu}{I:ek}(e:jT b c I):ho b c I:=e _
def AF(b:aL)(Sx:List bu)(I:fb)(SK:Pos):Prop:=(
 ∀(G:List (af×bj)) (j:ao) (A:a3) (m:ax) (D:List aj->ax->Prop),aH b G A m j->I A m D->wpAny (aS b.prog b.w) b.A (spliced<|f6 SK<|bV Sx b.env) (Qs b G A D) b.cU j)
def h1(b:aL)(Sx:List bu)(I:fb):Prop:=(∀SK,AF b Sx I SK)
def CZ(b:aL)(z:b9)(I:e6)(G:List (af×bj)):Prop:=(
 ∀(j:ao) (A:a3) (m:ax) (B:nY),aH b G A m j->I B A m->wpAny (aS b.prog b.w) b.A (exec z b.env) (oe b G B) b.cU j)
def h3(b:aL)(z:b9)(I:e6):Prop:=(∀G,CZ b z I G)
def As(b:aL)(z:List b9)(I:e6)(G:List (af×bj)):Prop:=(
 ∀(j:ao) (A:a3) (m:ax) (B:nY),aH b G A m j->I B A m->wpAny (aS b.prog b.w) b.A (execs z b.env) (oe b G B) b.cU j)
def hV(b:aL)(z:List b9)(I:e6):Prop:=(∀G,As b z I G)
def bX{SU:Type}{I:dR SU}{D a:SU->ao->Prop}{aA:hp}(e:wpAny aA O I D Sv j)(b:∀g j,D g j->a g j):wpAny aA O I a Sv j:=hl e b λ_ W d=>d
section
variable{b:aL}
def ly(a:Nat):b5:=(λA m D=>∃v,A[a]?=Z (Z v)/\D v m)
def pB(v:aj):b5:=(λ_ m D=>D v m)
def CO(l:b.N[a]?=Z d)(n:tq b.env.scope d)(hd:(d==("__debug__" : aD))=ar:=by decide)(o:(d==("__classdict__" : aD))=ar:=by decide):bN b (.Name d SK) (ly a):=by
 intro G j A m D E e;let⟨@v,c,e⟩:=e;let⟨@H,p,q⟩:=E.loc;let⟨@L,u,k⟩:=q a d v l c n;have fin:eO b G A D L j:=⟨v,m,E,u,e⟩;rcases k with ⟨f,r⟩|⟨f,h,g,i⟩
 ·exact yF (wpAny_loadName_local E.ok.kind f p r fin) hd
 ·rcases f with f|f
  ·exact yF (wpAny_loadName_cell E.ok.kind f g i fin) hd
  ·exact yF (wpAny_loadName_free E.ok.kind f g i fin o) hd
def I4{a i SK}:bN b (.Constant (.int a) i SK) (pB<|.int a):=λ_ W W m W E e=>wpAny_Constant_int ⟨.int a,m,E.tok _,⟨_,rfl⟩,e⟩
def Ls{f i SK}:bN b (.Constant (.bool f) i SK) (pB<|.av f):=λ_ W W m W E e=>Constant_bool ⟨.av f,m,E,rfl,e⟩
def JC{i SK}:bN b (.Constant .none i SK) (pB .aV):=λ_ W W m W E e=>Constant_none ⟨.aV,m,E,rfl,e⟩
def eS(b:aL)(d:aD):Prop:=(b.env.kindOf d=Z .globalImplicit)
def D6(E:aH b G A m j)(a:eS b d)(c:b.az d=Z L)(e:D L j)(hd:(d==("__debug__" : aD))=ar:=by decide):wpAny (aS b.prog b.w) b.A (ck (.Name d SK) b.env) D Sv j:=
 Gk E.ok.kind a (Calls.loadGlobal_global (by rw[E.ok.glob];exact E.mod.glob.keeps E.e1) c e) hd
def n2(E:aH b G A m j)(a:eS b d)(c:b.az d=Y)(f:e8 d=Z L)(e:D L j)(g:d ≠ "__name__" := by decide)(hd:(d==("__debug__" : aD))=ar:=by decide):wpAny (aS b.prog b.w) b.A (ck (.Name d SK) b.env) D Sv j:=by
 let⟨@h,t,C⟩:=E.mod.blt;exact Gk E.ok.kind a (Calls.loadGlobal_builtin (by rw[E.ok.glob];exact E.mod.glob.keeps E.e1) c (by rw[E.ok.blt];exact t.keeps E.e1) ((C d g).trans f) e) hd
def w3(a:eS b d)(c:b.az d=Z L)(u:cc v L)(hd:(d==("__debug__" : aD))=ar:=by decide):bN b (.Name d SK) (pB v):=
 λ_ W W m W E e=>D6 E a c ⟨v,m,E,u,e⟩ hd
def NM(a:eS b d)(c:b.az d=Y)(f:e8 d=Z L)(u:cc v L)(g:d ≠ "__name__" := by decide)(hd:(d==("__debug__" : aD))=ar:=by decide):bN b (.Name d SK) (pB v):=
 λ_ W W m W E e=>n2 E a c f ⟨v,m,E,u,e⟩ g hd
variable{g f:bu}{P Tv:b5}{SK:Pos}
variable{gS i:ek}{dh:List bu}
def Aj(I L:ek):ek:=(λA m D=>I A m λh SD=>if h=X then L A SD D else D ar SD)
def D9(I L:ek):ek:=(λA m D=>I A m λh SD=>if h=X then D X SD else L A SD D)
def OC(I:ek):ek:=(λA m D=>I A m λh SD=>D (!h) SD)
def Iv(a:ho b g gS):jT b (.BoolOp .And [g] SK) gS:=by
 intro d G j A m D E e;refine isTrue_and (bX (a G j A m D E e) λh f c=>?_);cases h with
 |true=>exact isTrue_and_nil c
 |false=>exact c
def Mm(a:ho b g gS):jT b (.BoolOp .Or [g] SK) gS:=by
 intro d G j A m D E e;refine isTrue_or (bX (a G j A m D E e) λh f c=>?_);cases h with
 |false=>exact isTrue_or_nil c
 |true=>exact c
def QB(d:ho b g gS)(k:jT b (.BoolOp .And (f::dh) SK) i):jT b (.BoolOp .And (g::f::dh) SK) (Aj gS i):=by
 intro l G j A m D E e;refine isTrue_and (bX (d G j A m _ E e) λh n o=>?_);let⟨@SD,a,c⟩:=o;cases h with
 |true=>exact k l G n A SD D a c
 |false=>exact⟨SD,a,c⟩
def PE(d:ho b g gS)(k:jT b (.BoolOp .Or (f::dh) SK) i):jT b (.BoolOp .Or (g::f::dh) SK) (D9 gS i):=by
 intro l G j A m D E e;refine isTrue_or (bX (d G j A m _ E e) λh n o=>?_);let⟨@SD,a,c⟩:=o;cases h with
 |true=>exact⟨SD,a,c⟩
 |false=>exact k l G n A SD D a c
def OA(a:ho b g gS):ho b (.UnaryOp .Not g SK) (OC gS):=by
 intro G j A m D E e;exact isTrue_not (a G j A m (λh SD=>D (!h) SD) E e)
def NB(P Tv:b5):b5:=(λA m D=>P A m λd SD=>∃h,d=.av h/\if h=X then Tv A SD D else D (.av ar) SD)
def PN(P:b5):b5:=(λA m D=>P A m λd SD=>∃h,d=.av h/\D (.av<|!h) SD)
def PK{S9}{I:b5}(e:bN b g I):bN b (.BoolOp S9 [g] SK) I:=λG j A m D E a=>BoolOp_one (e G j A m D E a)
def MG(i:bN b g P)(k:bN b (.BoolOp .And (f::dh) SK) Tv):bN b (.BoolOp .And (g::f::dh) SK) (NB P Tv):=by
 intro G j A m D E e;refine BoolOp_and (bX (i G j A m _ E e) λv l n=>?_);let⟨d,@SD,c,o,a⟩:=n;let⟨@h,rfl,a⟩:=a;cases o;refine ky ?_;cases h with
 |true=>exact k G l A SD D c a
 |false=>exact⟨.av ar,SD,c,rfl,a⟩
def Lj(c:bN b g P):bN b (.UnaryOp .Not g SK) (PN P):=by
 intro G j A m D E e;refine UnaryOp_ (bX (c G j A m _ E e) λv l f=>?_);let⟨d,@SD,i,k,a⟩:=f;let⟨@h,rfl,a⟩:=a;cases k;exact not_of (ky ⟨.av<|!h,SD,i,rfl,a⟩)
def Nc(I:ek)(P Tv:b5):b5:=(λA m D=>I A m λh SD=>if h=X then P A SD D else Tv A SD D)
def I5(i:ho b h gS)(k:bN b g P)(l:bN b f Tv):bN b (.IfExp h g f SK) (Nc gS P Tv):=by
 intro G j A m D E e;refine wpAny_IfExp (bX (i G j A m _ E e) λs a n=>?_);let⟨@SD,c,d⟩:=n;cases s with
 |true=>exact k G a A SD D c d
 |false=>exact l G a A SD D c d
end
def dk(So:Φ)(m:ax)(g:af)(w:List aj):Prop:=(
 kU m g (.lst w)\/
  ∃(n:bj) (SG:Array ae) (p:Nat),So.lookup g=Z n/\n.cls=.type "list" /\ n.dict=Y/\n.data=.seq SG p/\SG.size<=sizeLine/\bW w SG.toList)
def cu(So:Φ)(m:ax)(g:af)(w:List aj):Prop:=(
 kU m g (.tup w)\/
  ∃(n:bj) (SG:Array ae) (p:Nat),So.lookup g=Z n/\n.cls=.type "tuple" /\ n.data=.seq SG p/\SG.size<=sizeLine/\bW w SG.toList)
def JF:ae->Option aj
 |.none=>Z .aV
 |.bool f=>Z (.av f)
 |.int a _=>Z (.int a)
 |.str d _=>Z (.str d)
 |.bytes f _=>Z (.qG f)
 |.float f _=>Z (.yq f)
 |.ref g=>Z (.ref g)
 |.type p=>Z (.ty p)
 |_=>Y
def cc.abs{d:aj}(u:cc d L):JF L=Z d:=by
 cases d with
 |aV=>cases u;rfl
 |av _=>cases u;rfl
 |int _=>let⟨@I,rfl⟩:=u;rfl
 |str _=>let⟨@I,rfl⟩:=u;rfl
 |qG _=>let⟨@I,rfl⟩:=u;rfl
 |yq _=>let⟨@I,rfl⟩:=u;rfl
 |ref _=>cases u;rfl
 |ty _=>cases u;rfl
def cc.inj{d:aj}(u:cc d L)(r:cc y L):d=y:=Option.some.inj (u.abs.symm.trans r.abs)
theorem bW.inj:∀{w SI:List aj}{SO:List ae},bW w SO->bW SI SO->w=SI
 |_,_,_,.nil,.nil=>rfl
 |_,_,_,.cons u I,.cons Ti S5=>by rw[u.inj Ti,bW.inj I S5]
section
variable{b:aL}{G:List (af×bj)}{A:a3}{m:ax}{j:ao}{g:af}{w SI:List aj}
def dk.of(e:m g=Z (.lst w)):dk So m g w:=.inl (.inl e)
def cu.of(e:m g=Z (.tup w)):cu So m g w:=.inl (.inl e)
def aH.list(E:aH b G A m j)(e:dk b.K m g w):∃SG:List ae,bW w SG/\PlainL j.heap g SG.toArray/\w.length<=sizeLine:=by
 rcases e with e|⟨n,SG,p,a,d,hd,f,h,u⟩
 ·let@⟨z,⟨SG,@p,u,c⟩⟩:=e.ok E.aY;exact⟨SG,u,⟨_,p,c,rfl,rfl,rfl⟩,z⟩
 ·refine⟨SG.toList,u,⟨n,p,E.m5 g n a,d,hd,by simpa using f⟩,?_⟩;have c:=u.length;simp only[fy]at c;lia
def aH.tuple(E:aH b G A m j)(e:cu b.K m g w):∃SG:List ae,bW w SG/\o3 j.heap g SG.toArray/\w.length<=sizeLine:=by
 rcases e with e|⟨n,SG,p,a,d,f,i,u⟩
 ·let@⟨h,⟨@SG,u,q⟩⟩:=e.ok E.aY;exact⟨SG,u,q.tup,h⟩
 ·refine⟨SG.toList,u,⟨n,E.m5 g n a,d,p,by simpa using f⟩,?_⟩;have c:=u.length;simp only[fy]at c;lia
def aH.QN(E:aH b G A m j)(e:dk b.K m g w)(Sq:dk b.K m g SI):w=SI:=by
 let⟨@SG,u,⟨n,@p,c,W,W,s⟩,W⟩:=E.list e;let⟨@B,Ti,⟨S7,@f,a,W,W,d⟩,W⟩:=E.list Sq;rw[c]at a;cases a;rw[s]at d;injection d with Td _;have:SG=B:=by simpa using congrArg Array.toList Td
 subst this;exact u.inj Ti
def aH.y_(E:aH b G A m j)(e:cu b.K m g w)(Sq:cu b.K m g SI):w=SI:=by
 let⟨@SG,u,⟨@n,c,W,⟨@p,s⟩⟩,W⟩:=E.tuple e;let⟨@B,Ti,⟨@S7,a,W,⟨@f,d⟩⟩,W⟩:=E.tuple Sq;rw[c]at a;cases a;rw[s]at d;injection d with Td _;have:SG=B:=by simpa using congrArg Array.toList Td
 subst this;exact u.inj Ti
end
abbrev aL.kI(b:aL)(Sv:ae->ao->Prop):aL:={b with cU:=Sv}
abbrev aL.mX(b:aL):aL:=b.kI λ_ _=>False
def aL.Ok.kI(ok:b.Ok)(Sv:ae->ao->Prop):(b.kI Sv).Ok:=
 ⟨ok.mod,ok.kind,ok.glob,ok.blt,ok.above,ok.inj,ok.has,ok.pl,ok.hd,ok.frames,ok.r4,ok.yP,ok.bs,ok.kY,ok.oQ,ok.pX,ok.iO,ok.ny⟩
def aL.Ok.mx(ok:(b.kI Sv).Ok):b.Ok:=
 ⟨ok.mod,ok.kind,ok.glob,ok.blt,ok.above,ok.inj,ok.has,ok.pl,ok.hd,ok.frames,ok.r4,ok.yP,ok.bs,ok.kY,ok.oQ,ok.pX,ok.iO,ok.ny⟩
section
variable{b:aL}{G:List (af×bj)}{A:a3}{m:ax}{j:ao}{Sv:ae->ao->Prop}
def aH.kI(E:aH b G A m j)(Sv:ae->ao->Prop):aH (b.kI Sv) G A m j:=⟨E.ok.kI Sv,E.os,E.bare,E.base,E.loc,E.cell,E.free,E.jt,E.pin,E.aY,E.len⟩
def aH.mx(E:aH (b.kI Sv) G A m j):aH b G A m j:=⟨E.ok.mx,E.os,E.bare,E.base,E.loc,E.cell,E.free,E.jt,E.pin,E.aY,E.len⟩
def oe.mx{B:nY}{x:Flow}(e:oe (b.kI Sv) G B x Sr):oe b G B x Sr:=by
 cases x with
 |next=>let⟨a,@T,E,r⟩:=e;exact⟨a,T,E.mx,r⟩
 |brk=>let⟨a,@T,E,r⟩:=e;exact⟨a,T,E.mx,r⟩
 |cont=>let⟨a,@T,E,r⟩:=e;exact⟨a,T,E.mx,r⟩
 |ret L=>let⟨v,a,@T,E,u,r⟩:=e;exact⟨v,a,T,E.mx,u,r⟩
def hV.mX{z:List b9}{I:e6}(e:hV b.mX z I):hV b z I:=λG j A m B E a=>
 hl (e G j A m B (E.kI _) a) (λ_ W r=>r.mx) λ_ W c=>False.elim c
end
section
variable{b:aL}{z:b9}{dh:List b9}{I L:e6}{c:bu}{TA:b5}{SK:Pos}
def Ks:e6:=(λB A m=>B.bo A m)
def GK(I L:e6):e6:=(λB A m=>I {B with bo:=L B} A m)
def Qv:hV b [] Ks:=λ_ W A m W E e=>tI ⟨A,m,E,e⟩
def Ow(t:h3 b z I)(C:hV b dh L):hV b (z::dh) (GK I L):=by
 intro G j A m B E e;refine GW (bX (t G j A m {B with bo:=L B} E e) λx a r=>?_);cases x with
 |next=>
  let⟨c,@T,d,r⟩:=r;exact C G a c T B d r
 |ret v=>exact r
 |brk=>exact r
 |cont=>exact r
def Ol(t:h3 b z I):hV b [z] I:=by
 intro G j A m B E e;refine GW (bX (t G j A m B E e) λx a r=>?_);cases x with
 |next=>exact tI r
 |ret v=>exact r
 |brk=>exact r
 |cont=>exact r
def aH.quiet(E:aH b G A m j):interactive b.env=ar:=by simp[interactive,E.ok.kind]
def IG(TA:b5):e6:=(λB A m=>TA A m λ_ SD=>B.bo A SD)
def Im(a:bN b c TA)(f:mZ c Y SK.line b.env=pure ar:=by rfl):h3 b (.Expr c SK) (IG TA):=by
 intro G j A m B E e;exact wpAny_Expr_any (bX (a G j A m _ E e) λv i ⟨d,SD,g,k,h⟩=>⟨A,SD,g,h⟩) E.quiet f
def IU(TA:b5):e6:=(λB A m=>TA A m B.es)
def HL(a:bN b c TA):h3 b (.Return (Z c) SK) (IU TA):=by
 intro G j A m B E e;exact wpAny_Return_some (bX (a G j A m _ E e) λv i ⟨d,SD,f,g,h⟩=>⟨d,A,SD,f,g,h⟩)
def OP(h:ek)(I L:e6):e6:=(λB A m=>h A m λf SD=>if f=X then I B A SD else L B A SD)
def Q5{g f:List b9}(i:ho b h TN)(k:hV b g I)(l:hV b f L):h3 b (.If h g f SK) (OP TN I L):=by
 intro G j A m B E e;refine wpAny_If (bX (i G j A m _ E e) λs a n=>?_);let⟨@SD,c,d⟩:=n;cases s with
 |true=>exact k G a A SD B c d
 |false=>exact l G a A SD B c d
def KV:e6:=(λ_ W W=>False)
def Hj:h3 b z KV:=λ_ W W W W W e=>e.elim
end
abbrev gg:=aj->a3->ax->(a3->ax->Prop)->Prop
abbrev jq:=List aj->a3->ax->(a3->ax->Prop)->Prop
def AL(b:aL)(c:bu)(I:gg)(G:List (af×bj)):Prop:=(
 ∀(j:ao) (A:a3) (m:ax) (v:aj) (L:ae) (D:a3->ax->Prop),aH b G A m j->cc v L->I v A m D->
  wpAny (aS b.prog b.w) b.A (ig c b.env L) (λ_ Sr=>∃a T,aH b G a T Sr/\D a T) b.cU j)
def jw(b:aL)(a:bu)(I:gg):Prop:=(∀G,AL b a I G)
def Af(b:aL)(c:List bu)(I:jq)(G:List (af×bj)):Prop:=(
 ∀(j:ao) (A:a3) (m:ax) (Sp:List aj) (SO:List ae) (D:a3->ax->Prop),aH b G A m j->bW Sp SO->I Sp A m D->
  wpAny (aS b.prog b.w) b.A (EU ((fe c b.env).map (·.2)) SO) (λ_ Sr=>∃a T,aH b G a T Sr/\D a T) b.cU j)
def n4(b:aL)(a:List bu)(I:jq):Prop:=(∀G,Af b a I G)
abbrev wj:=aj->aj->aj->ax->(ax->Prop)->Prop
def v_(b:aL)(I:wj):Prop:=(
 ∀(G:List (af×bj)) (j:ao) (A:a3) (m:ax) (n a v:aj) (c d L:ae) (D:ax->Prop),aH b G A m j->cc n c->cc a d->cc v L->I n a v m D->
  wpAny (aS b.prog b.w) b.A (vs c d L) (λ_ Sr=>∃T,aH b G A T Sr/\D T) b.cU j)
section
variable{b:aL}{SK:Pos}
def yO(a:Nat):gg:=(λv A m D=>D (A.set a<|Z v) m)
def J6(c:b.N.Nodup)(U:b.N[a]?=Z d)(f:kc b.env.scope d)(g:b.fn d=X\/b.env.scope.names.lookup d=Z .local:=by first|exact .inl rfl|exact .inr rfl|assumption):jw b (.Name d SK) (yO a):=by
 intro G j A m v L D E u e;exact Et (BM E c U f u (λSr h=>⟨_,m,h,e⟩) g)
def Kb:jq:=(λSp A m D=>Sp=[]/\D A m)
def QA(I:gg)(L:jq):jq:=(λSp A m D=>∃v u,Sp=v::u/\I v A m λa T=>L u a T D)
def P6:n4 b [] Kb:=by
 intro G j A m Sp SO D E u e;let@⟨c,e⟩:=e;subst c;cases u;exact assignInOrder_nil ⟨A,m,E,e⟩
def Ka{I:gg}{L:jq}(t:jw b c I)(C:n4 b Sx L)(a:(fe (c::Sx) b.env).map (·.2)=ig c b.env::(fe Sx b.env).map (·.2):=by rfl):n4 b (c::Sx) (QA I L):=by
 intro G j A m Sp SO D E u e;let⟨v,@l,d,e⟩:=e;subst d;cases u with
 |cons u f=>
  rw[a];refine assignInOrder_cons (bX (t G j A m _ _ _ E u e) λ_ g h=>?_);let⟨TH,@SD,i,k⟩:=h;exact C G g TH SD _ _ D i f k
def Ln(So:Φ)(p:Nat)(I:jq):gg:=(λv A m D=>∃g w,v=.ref g/\cu So m g w/\w.length=p/\I w A m D)
def Pp{I:jq}(h:b.calm=X)(e:n4 b Sx I)(i:(fe Sx b.env).length=p:=by rfl)(k:(fe Sx b.env).findIdx? (·.1)=Y:=by rfl):jw b (.Tuple Sx o SK) (Ln b.K p I):=by
 intro G j A m v L D E u a;let⟨g,@w,l,q,r,a⟩:=a;subst l;cases u;let⟨@SG,d,s,y⟩:=E.tuple q;refine assign_Tuple_tuple (E.ok.hd h) s (by simp[i,<-r,d.length]) k λSq t=>?_;have x:aH b G A m {j with heap:=Sq}:=E.kept (S5:=j.toks) λf n c=>t f n (dU<|cn c) c;exact e G _ A m w _ D x ⇑d a
def IY(i b:b5)(I:wj):gg:=(λv A m D=>i A m λn SD=>b A SD λa SP=>I n a v SP λc=>D A c)
def La{n a:bu}{i h:b5}{I:wj}(k:bN b n i)(U:bN b a h)(l:v_ b I)(o:∀v,ig (.Subscript n a SK) b.env v=(do
   let c <-holding [v] (ck n b.env)
   let f <-holding [v,c] (ck a b.env)
   standAt SK
   holding [v,c,f] (vs c f v)
   release [v,c,f] []):=by intro W;rfl):jw b (.Subscript n a SK) (IY i h I):=by
 intro G j A m v L D E u e;rw[o];refine aw (fB<|bX (k G j A m _ E e) λc p g=>?_);let⟨d,@SD,q,r,s⟩:=g;refine aw (fB<|bX (U G p A SD _ q s) λf t g=>?_);let⟨y,@SP,w,x,z⟩:=g;refine aw (t4<|aw<|fB<|bX (l G t A SP d y v c f L _ w r x u z) λ_ H g=>?_);let⟨@B,C,F⟩:=g;exact wpAny_release ⟨A,B,C,F⟩
def x3(TA:b5)(M:gg):e6:=(λB A m=>TA A m λd SD=>M d A SD B.bo)
def MI{M:gg}(a:bN b c TA)(f:jw b S1 M)(g:DI [S1] c SK.line b.env=pure ar:=by rfl)(h:A4 [S1] c b.env=pure Y:=by rfl)(t:(fe [S1] b.env).map (·.2)=[ig S1 b.env]:=by rfl):h3 b (.Assign [S1] c SK) (x3 TA M):=by
 intro G j A m B E e;refine wpAny_Assign_stores (bX (a G j A m _ E e) λv i ⟨d,SD,k,l,n⟩=>?_) g h;rw[t];exact bX (f G i A SD d v _ k l n) λ_ o r=>r
def NR{i:Pos}(f:b.N.Nodup)(U:b.N[a]?=Z d)(g:kc b.env.scope d)(h:bN b c TA)(l:mZ c (Z<|.Name d i) SK.line b.env=pure ar:=by rfl)(n:b.fn d=X\/b.env.scope.names.lookup d=Z .local:=by first|exact .inl rfl|exact .inr rfl|assumption):
  h3 b (.Assign [.Name d i] c SK) (x3 TA<|yO a):=by
 intro G j A m B E e;refine wpAny_Assign_Name (bX (h G j A m _ E e) λv s ⟨y,SD,o,p,q⟩=>?_) l;exact BM o f U g p (λt r=>⟨_,SD,r,q⟩) n
def QX(h:ek)(Tv:e6):e6:=(λB A m=>∃W:Nat->a3->ax->Prop,(∃H,W H A m)/\∀H A m,W H A m->
 h A m λf SD=>if f=X then ∃SY:a3->ax->Prop,(∀a T,SY a T->∃b,b<H/\W b a T)/\Tv {B with bo:=SY,b3:=SY,e1:=B.bo} A SD else B.bo A SD)
def Pj(r:qh (aS b.prog b.w) b.A b.env b.cU)(y:ho b h TN)(z:hV b TG Tv):h3 b (.While h TG [] SK) (QX TN Tv):=by
 intro G j A m B E e;let⟨@W,⟨@C,D⟩,turn⟩:=e;refine wpAny_While (codeAny_whileLoop (λp Sr=>∃s T,aH b G s T Sr/\W p s T) ?_ C ⟨A,m,E,D⟩);rintro p F ⟨TH,SD,H,I⟩;refine m3 r (bX (y G F TH SD _ H<|turn p TH SD I) λf J L=>?_);let⟨@SP,t,d⟩:=L;cases f with
 |true=>
  let⟨@SY,u,d⟩:=d;rw[aJ rfl];refine m3 r (bX (z G J TH SP _ t d) λx M g=>?_);cases x with
  |next=>
   let⟨a,@c,i,k⟩:=g;let⟨@n,o,q⟩:=u a c k;exact⟨n,o,a,c,i,q⟩
  |cont=>
   let⟨a,@c,i,k⟩:=g;let⟨@n,o,q⟩:=u a c k;exact⟨n,o,a,c,i,q⟩
  |brk=>exact g
  |ret v=>exact g
 |false=>
  rw[aM dA];exact tI ⟨TH,SP,t,d⟩
end
structure e9 where
 go:Nat->ax->Prop
 qa:Nat->ax->aj->ax->Prop
 stop:Nat->ax->Prop
def jV(b:aL)(G:List (af×bj))(m:ax)(f:af):Prop:=(
 m f=Y/\f≠b.env.locals/\f∉b.aa/\(f∈b.ex\/b.eZ.heap.objs.size<=f)/\(∀d h,b.env.cells.lookup d=Z h->h≠f)/\∀q∈b.kQ++G,q.1≠f)
def aH.uV(E:aH b G A m j)(a:j.heap.objs.size<=f)(g:T f=Y):jV b G T f:=by
 refine⟨g,lH<|eX E.lt a,E.O8 a,.inr<|ew E.kf a,λd h c e=>?_,λq i e=>?_⟩
 ·let⟨@v,r⟩:=E.cell d h c;exact absurd (eX r.lt (by rw[e];exact a)) (jx _)
 ·exact absurd (eX (cn (E.pin q i).1) (by rw[e];exact a)) (jx _)
structure qU(R:bA)(l:bk)(So:Φ)(S1:bu)(Tw:e9)(bF:List af)(it:af)(i:Nat->a5->Prop):Prop where
 mem:it∈bF
 obj:∀a e,i a e->∀f∈bF,∃n,e.get? f=Z n/\∀v,n.data≠.cell v
 keep:∀a e Sq,i a e->(∀f∈bF,∀n,e.get? f=Z n->Sq.get? f=Z n)->i a Sq
 item:∀(b:aL),b.prog=R->b.w=l->b.K=So->b.calm=X->∀(a:Nat) (G:List (af×bj)) (j:ao) (A:a3) (m:ax) (Sv:ae->ao->Prop),aH b G A m j->(∀f∈bF,jV b G m f)->i a j.heap->Tw.go a m->
  wpAny (aS R l) b.A (hK<|.ref it) (λu s1=>∃L,u=Z L/\
   wpAny (aS R l) b.A (qN S1 (.ref it) L) (λ_ s2=>∃d T,aH b G A T s2/\cc d L/\Tw.qa a m d T/\i (a+1) s2.heap/\∀f∈bF,T f=Y) Sv s1) Sv j
 done:∀(b:aL),b.prog=R->b.w=l->b.K=So->b.calm=X->∀(a:Nat) (G:List (af×bj)) (j:ao) (A:a3) (m:ax) (Sv:ae->ao->Prop),aH b G A m j->(∀f∈bF,jV b G m f)->i a j.heap->Tw.stop a m->
  wpAny (aS R l) b.A (hK<|.ref it) (λu s1=>u=Y/\aH b G A m s1) Sv j
 self:∀(O:bw) (a:Nat) (j:ao) (D:ae->ao->Prop) (Sv:ae->ao->Prop),i a j.heap->D (.ref it) j->wpAny (aS R l) O (sy<|.ref it) D Sv j
abbrev da:=a3->ax->(e9->ax->Prop)->Prop
def zT(b:aL)(G:List (af×bj))(A:a3)(S1:bu)(Su:e9->ax->Prop)(c:ae)(a:ao):Prop:=(
 ∃(it:af) (bF:List af) (i:Nat->a5->Prop) (Tw:e9) (T:ax),c=.ref it/\aH b G A T a/\qU b.prog b.w b.K S1 Tw bF it i/\i 0 a.heap/\(∀f∈bF,jV b G T f)/\Su Tw T)
def zR(b:aL)(S1 Tr:bu)(fg:da)(G:List (af×bj)):Prop:=(
 ∀(j:ao) (A:a3) (m:ax) (Su:e9->ax->Prop),aH b G A m j->fg A m Su->
  wpAny (aS b.prog b.w) b.A (ck Tr b.env) (λv a=>wpAny (aS b.prog b.w) b.A (sy v) (zT b G A S1 Su) b.cU a) b.cU j)
def k4(b:aL)(S1 Tr:bu)(fg:da):Prop:=(∀G,zR b S1 Tr fg G)
def w2{aA:hp}{Sv:ae -> ao -> Prop}{it:af}{n:bj}{p:String}{Sp:Array ae}{D:Unit -> ao -> Prop}(b:j.heap.get? it=Z n)(c:n.cls=.type p)(hd:n.data=.fields Sp)(d:["enumerate", "zip", "dict_itemiterator", "dict_reverseitemiterator", "odict_iterator", "itertools.zip_longest", "itertools.pairwise"].contains p=ar)(a:D () j): wpAny aA O (qN S1 (.ref it) L) D Sv j:=by
  unfold qN;cases S1 <;> first
    | exact aW a
    | (cases L <;> first
        | exact aW a
        | (refine aw (wpAny_load b ?_)
           rw [c,hd];show wpAny aA O (if (["enumerate", "zip", "dict_itemiterator", "dict_reverseitemiterator", "odict_iterator", "itertools.zip_longest", "itertools.pairwise"].contains p&&Sp[0]? == Z (kE _))=X then _ else _) D Sv j;rw [aM (by intro e; rw [d,Bool.false_and]at e; cases e)];exact aW a))
def rE(So:Φ)(g:af):e9:=(
 ⟨λa m=>∃w d,dk So m g w/\w[a]?=Z d,λa m d T=>T=m/\∀w,dk So m g w->w[a]?=Z d,λa m=>∃w,dk So m g w/\w.length<=a⟩)
def uf(So:Φ)(g:af):e9:=(
 ⟨λa m=>∃w d,cu So m g w/\w[a]?=Z d,λa m d T=>T=m/\∀w,cu So m g w->w[a]?=Z d,λa m=>∃w,cu So m g w/\w.length<=a⟩)
def ua(Q:Int)(p:Nat):e9:=(⟨λa W=>a<p,λa m d T=>T=m/\d=.int (Q+a),λa W=>p<=a⟩)
theorem H0(g it:af):qU R l So S1 (rE So g) [it] it (λa e=>e.IsListIter it g a) where
 mem:=by simp
 obj:=λa e z f i=>by
  have c:f=it:=by simpa using i
  subst c;let⟨@n,c,h,s⟩:=z;exact⟨n,c,λv J=>by rw[s]at J;cases J⟩
 keep:=λa e Sq z o=>z.at λn c=>o it ↥0 n c
 item:=by
  intro b r t u M a G j A m Sv E k z x;subst r t u;let⟨w,@d,p,y⟩:=x;let⟨@SG,B,q,O⟩:=E.list p;let⟨@L,P,Q⟩:=B.get y;let@⟨C,D,S,F,H,I⟩:=k it ↥0;refine G8 z q.isList (x:=L) ⇑P λSq N cv=>?_;have T:aH b G A m {j with heap:=Sq}:=E.turned (S5:=j.toks) (λf n i c=>(cv.2 f i).trans c) C D F H I;let⟨@n,c,h,s⟩:=id N;exact⟨L,rfl,w2 (j:={j with heap:=Sq}) c h s ∅ ⟨d,m,T,Q,⟨rfl,λSI U=>by rw[E.QN U p];exact y⟩,N,λf i=>(k f i).1⟩⟩
 done:=by
  intro b r t u M a G j A m Sv E k z x;subst r t u;let⟨@w,p,y⟩:=x;let⟨@SG,B,q,O⟩:=E.list p;let@⟨C,D,S,F,H,I⟩:=k it ↥0;have am:=B.length;exact EN (E.ok.hd M) z q.isList (by simp;lia) λSq al=>⟨rfl,E.turned (S5:=j.toks) (λf n i c=>al f n i c) C D F H I⟩
 self:=λ_ W W W W z e=>wpAny_pyIter_listiter z e
theorem Rl(g it:af):qU R l So S1 (uf So g) [it] it (λa e=>e.IsTupleIter it g a) where
 mem:=by simp
 obj:=λa e z f i=>by
  have c:f=it:=by simpa using i
  subst c;let⟨@n,c,h,s⟩:=z;exact⟨n,c,λv J=>by rw[s]at J;cases J⟩
 keep:=λa e Sq z o=>z.at λn c=>o it ↥0 n c
 item:=by
  intro b r t u M a G j A m Sv E k z x;subst r t u;let⟨w,@d,p,y⟩:=x;let⟨@SG,B,q,O⟩:=E.tuple p;let⟨@L,P,Q⟩:=B.get y;let@⟨C,D,S,F,H,I⟩:=k it ↥0;refine wpAny_pyNext_tuple_item z (show j.heap.IsTuple g SG.toArray from q) (x:=L) ⇑P λSq N cv=>?_;have T:aH b G A m {j with heap:=Sq}:=E.turned (S5:=j.toks) (λf n i c=>(cv.2 f i).trans c) C D F H I;let⟨@n,c,h,s⟩:=id N;exact⟨L,rfl,w2 (j:={j with heap:=Sq}) c h s ∅ ⟨d,m,T,Q,⟨rfl,λSI U=>by rw[E.y_ U p];exact y⟩,N,λf i=>(k f i).1⟩⟩
 done:=by
  intro b r t u M a G j A m Sv E k z x;subst r t u;let⟨@w,p,y⟩:=x;let⟨@SG,B,q,O⟩:=E.tuple p;let@⟨C,D,S,F,H,I⟩:=k it ↥0;have am:=B.length;exact wpAny_pyNext_tuple_end (E.ok.hd M) z (show j.heap.IsTuple g SG.toArray from q) (by simp;lia) λSq al=>⟨rfl,E.turned (S5:=j.toks) (λf n i c=>al f n i c) C D F H I⟩
 self:=λ_ W W W W z e=>wpAny_pyIter_tupleiter z e
theorem JW(it:af)(Q:Int)(p:Nat):qU R l So S1 (ua Q p) [it] it (λa e=>IsRangeIter e it (Q+(a:Nat)*1) ((p:Int)-(a:Nat)) 1) where
 mem:=by simp
 obj:=λa e z f d=>by
  have c:f=it:=by simpa using d
  subst c;exact⟨_,z,λv C=>by
   have D:mY.fields _=mY.cell v:=C;cases D⟩
 keep:=λa e Sq z o=>o it ↥0 _ z
 item:=by
  intro b h i k q a G j A m Sv E g z r;subst h i k;let@⟨s,t,F,u,x,y⟩:=g it ↥0;have W:=mn.range (prog:=b.prog) (w:=b.w) (E.ok.hd q) it Q 1 p;refine W.item a j _ _ r z λv Sq Tb H B J=>?_;let⟨@I,rfl⟩:=H;have L:aH b G A m {j with heap:=Sq,toks:=Tb}:=E.turned (λf n d c=>J f n ⇑d c) s t u x y;refine⟨_,rfl,w2 (j:={j with heap:=Sq,toks:=Tb}) (p := "range_iterator") B rfl rfl ∅ ⟨.int<|Q+a,m,L,⟨I,?_⟩,⟨rfl,rfl⟩,B,λf d=>(g f d).1⟩⟩;rw[Dx]
 done:=by
  intro b h i k q a G j A m Sv E g z r;subst h i k;let@⟨s,t,F,u,x,y⟩:=g it ↥0;exact wpAny_pyNext_range_end (E.ok.hd q) z (by have:p<=a:=r;lia) λSq M=>⟨rfl,E.turned (S5:=j.toks) (λf n d c=>M f n d c) s t u x y⟩
 self:=λ_ U U U U z e=>wpAny_pyIter_rangeiter z e
section
variable{b:aL}{S1:bu}
def PG{Su:e9->ax->Prop}{Q U:Int}{I L v:iu}{Tb:Nat}(E:aH b G A m j)(t : -(2^62)<=Q)(C:Q<2^62)(d : -(2^62)<=U)(e:U<2^62)(r:Su (ua Q (U-Q).toNat) m):wpAny (aS b.prog b.w) b.A (sy<|.ref j.heap.objs.size) (zT b G A S1 Su) Sv {j with heap:=j.heap.push {cls:=.type "range",data:=.fields #[.int Q I,.int U L,.int 1 v]},toks:=Tb}:=by
 refine wpAny_pyIter_range (IsRange.new ..) (small_one t C d e) ?_;have a:aH b G A m {j with heap:=j.heap.push {cls:=.type "range",data:=.fields #[.int Q I,.int U L,.int 1 v]},toks:=Tb}:=E.kept λf n c=>cw _ c;refine⟨(j.heap.push {cls:=.type "range",data:=.fields #[.int Q I,.int U L,.int 1 v]}).objs.size,[(j.heap.push {cls:=.type "range",data:=.fields #[.int Q I,.int U L,.int 1 v]}).objs.size],_,_,m,rfl,
  a.kept (S5:=Tb) λf n c=>cw _ c,JW _ Q (U-Q).toNat,?_,λf g=>?_,r⟩
 ·have h:Q+((0:Nat):Int)*1=Q:=by simp
  have i:(((U-Q).toNat:Nat):Int)-((0:Nat):Int)=a_.Range.rangeSize Q U 1:=by rw[rangeSize_one];split<;>lia
  show IsRangeIter _ _ (Q+((0:Nat):Int)*1) ((((U-Q).toNat:Nat):Int)-((0:Nat):Int)) 1;rw[h,i];exact dx _ rfl
 ·have c:f=(j.heap.push {cls:=.type "range",data:=.fields #[.int Q I,.int U L,.int 1 v]}).objs.size:=by simpa using g
  subst c;exact a.uV (bl _) (a.aY.fresh<|bl _)
def OF(P:fb):da:=(λA m Su=>P A m λSp SD=>∃i:Int,Sp=[.int i] /\ -(2^62)<=i/\i<2^62/\Su (ua 0 i.toNat) SD)
def Pc{g:bu}{P:fb}{q:Pos}(d:eS b "range")(f:b.az "range" = Y)(h:h1 b [g] P)(k:bV [g] b.env=[(ar,ck g b.env)]:=by rfl):k4 b S1 (.Call (.Name "range" q) [g] [] SK) (OF P):=by
 intro G j A m Su E e;refine Call_ (n2 E d f boot_range<|qu (bX (h SK G j A m _ E e) λSO s ⟨Sp,SD,l,n,a⟩=>?_) k rfl);let⟨@i,c,a,o,r⟩:=a;subst c;cases n with
 |cons u p=>
  cases p;let⟨@I,rfl⟩:=u;exact call_range_1 (PG l ⋯ ⋯ a o ⇑r)
def F9(fg:da)(M:gg)(Tv:e6):e6:=(λB A m=>fg A m λTw SD=>∃W:Nat->Nat->a3->ax->Prop,(∃H,W 0 H A SD)/\∀a H A m,W a H A m->
 (Tw.stop a m/\B.bo A m)\/(Tw.go a m/\∃SY:a3->ax->Prop,(∀b T,SY b T->∃c,c<H/\W (a+1) c b T)/\∀d T,Tw.qa a m d T->M d A T λe SP=>Tv {B with bo:=SY,b3:=SY,e1:=B.bo} e SP))
def lV(bF:List af)(e:a5):List (af×bj):=(bF.filterMap λf=>(e.get? f).map λn=>(f,n))
def t7{n:bj}(a:f∈bF)(c:e.get? f=Z n):(f,n)∈lV bF e:=BS.mpr ⟨f,a,by rw[c];rfl⟩
def Bn{q:af×bj}(a:q∈lV bF e):q.1∈bF/\e.get? q.1=Z q.2:=by
 let⟨@f,b,c⟩:=BS.mp a;cases r:e.get? f with
 |none=>rw[r]at c;cases c
 |some n=>
  rw[r]at c;have d:(f,n)=q:=Option.some.inj c;subst d;exact⟨b,r⟩
def aH.pinned(E:aH b G A m j)(g:∀f∈bF,jV b G m f)(h:∀f∈bF,∃n,j.heap.get? f=Z n/\∀v,n.data≠.cell v):aH b (G++lV bF j.heap) A m j:=
 E.pV λq i=>(dt.mp i).elim (λa=>E.pin q<|dQ _ a) λa=>by
  let@⟨d,c⟩:=Bn a;let@⟨k,l,o,_⟩:=g q.1 d;let⟨@n,e,s⟩:=h q.1 d;rw[c]at e;cases e;exact⟨c,k,l,o,s⟩
def aH.yo{bD:List (af×bj)}(E:aH b (G++bD) A m j):aH b G A m j:=E.pV λq a=>E.pin q (dQ _<|dK _ a)
def Po{Tr:bu}{fg:da}{M:gg}(y:qh (aS b.prog b.w) b.A b.env b.cU)(R:b.calm=X)(U:k4 b S1 Tr fg)(bd:jw b S1 M)(g:hV b TG Tv)(be:∀d,ma Tr b.env d=pure d:=by intro O;rfl):h3 b (.For S1 Tr TG [] SK) (F9 fg M Tv):=by
 intro G j A m B E e;refine wpAny_For (bX (U G j A m _ E e) λv f4 t=>bX t λf8 ga C=>?_) be;let⟨it,bF,i,Tw,@SP,c,bi,S,bm,al,⟨@W,⟨@bn,bs⟩,turn⟩⟩:=C;subst c;have J:∀{T:ax},(∀f∈bF,T f=Y)->∀f∈bF,jV b G T f:=λbv f g=>⟨bv f g,(al f g).2⟩;refine codeAny_forLoop_any (λp Sr=>∃a z T,aH b G z T Sr/\i a Sr.heap/\(∀f∈bF,T f=Y)/\W a p z T) ?_ bn ⟨0,A,SP,bi,bm,λf g=>(al f g).1,bs⟩;rintro p am ⟨a,D,I,an,ap,as,ca⟩;rcases turn a p D I ca with ⟨stop,cd⟩|⟨go,SY,ce,step⟩
 ·refine m3 y (bX (S.done b rfl rfl rfl R a G am D I b.cU an (J as) ap stop) λu ch r=>?_);let@⟨N,ci⟩:=r;subst N;exact tI ⟨D,I,ci,cd⟩
 ·refine m3 y (bX (S.item b rfl rfl rfl R a G am D I b.cU an (J as) ap go) λu ch r=>?_);let⟨@L,N,cl⟩:=r;subst N;refine m3 y (bX cl λ_ a1 r=>?_);let⟨d,@a2,co,cr,cs,P,db⟩:=r;have ds:=co.pinned (J db) (S.obj _ _ P);refine m3 y (bX (bd _ a1 D a2 d L _ ds cr<|step d a2 cs) λ_ dL r=>?_);let⟨eq,@ev,ex,fd⟩:=r;refine m3 y (bX (g _ dL eq ev _ ex fd) λx Q q=>?_);have again:∀{h:a3}{k:ax},aH b (G++lV bF a1.heap) h k Q->SY h k->∃H,H<p/\∃a z T,aH b G z T Q/\i a Q.heap/\(∀f∈bF,T f=Y)/\W a H z T:=λ{h k} o F=>by
   let⟨@fn,fr,f0⟩:=ce h k F;refine⟨fn,fr,a+1,h,k,o.yo,S.keep _ _ _ P λf g n c=>(o.pin (f,n)<|dQ _<|dQ _<|t7 g c).1,λf g=>?_,f0⟩;let⟨@n,c,s⟩:=S.obj _ _ P f g;exact (o.pin (f,n)<|dQ _<|dQ _<|t7 g c).2.1
  cases x with
  |next=>let⟨h,@k,o,F⟩:=q;exact again o F
  |cont=>let⟨h,@k,o,F⟩:=q;exact again o F
  |brk=>let⟨h,@k,o,q⟩:=q;exact⟨h,k,o.yo,q⟩
  |ret v=>let⟨f1,h,@k,o,f2,q⟩:=q;exact⟨f1,h,k,o.yo,f2,q⟩
end
abbrev b0:=aj->aj->ax->cI->Prop
variable{Ti u:b0}
def dV(b:aL)(x:ae->ae->dR ae)(u:b0):Prop:=(
 ∀(G:List (af×bj)) (j:ao) (A:a3) (m:ax) (d y:aj) (v L:ae) (D:cI),aH b G A m j->cc d v->cc y L->u d y m D->
  wpAny (aS b.prog b.w) b.A (x v L) (eO b G A D) b.cU j)
def wV(b:aL)(x:ae->dR ae)(u:aj->ax->cI->Prop):Prop:=(
 ∀(G:List (af×bj)) (j:ao) (A:a3) (m:ax) (d:aj) (v:ae) (D:cI),aH b G A m j->cc d v->u d m D->
  wpAny (aS b.prog b.w) b.A (x v) (eO b G A D) b.cU j)
def eA(b:aL)(x:ae)(u:List aj->ax->cI->Prop):Prop:=(
 ∀(G:List (af×bj)) (j:ao) (A:a3) (m:ax) (w:List aj) (SO:List ae) (D:cI),aH b G A m j->bW w SO->u w m D->
  wpAny (aS b.prog b.w) b.A (call x SO) (eO b G A D) b.cU j)
def MJ(b:aL)(u:aj->ax->(Bool->ax->Prop)->Prop):Prop:=(
 ∀(G:List (af×bj)) (j:ao) (A:a3) (m:ax) (d:aj) (v:ae) (D:Bool->ax->Prop),aH b G A m j->cc d v->u d m D->
  wpAny (aS b.prog b.w) b.A (truthy v) (t2 b G A D) b.cU j)
def tv(u:b0)(P Tv:b5):b5:=(λA m D=>P A m λd SD=>Tv A SD λy SP=>u d y SP D)
def Pe(u:aj->ax->cI->Prop)(P:b5):b5:=(λA m D=>P A m λd SD=>u d SD D)
def pW(aO:Int->Int->Prop)(M:Int->Int->aj):b0:=(λd y m D=>∃a i,d=.int a/\y=.int i/\aO a i/\D (M a i) m)
def mg(M:Int->Int->aj):b0:=(λd y m D=>∃a i,d=.int a/\y=.int i/\D (M a i) m)
def Ab(M:Int->aj):aj->ax->cI->Prop:=(λd m D=>∃a,d=.int a/\D (M a) m)
section
variable{b:aL}{g f h:bu}{P Tv TN:b5}{SK:Pos}
def zj(h:bN b g P)(i:bN b f Tv){G:List (af×bj)}{j:ao}{A:a3}{m:ax}{Su:aj->aj->ax->Prop}(E:aH b G A m j)(e:P A m λd SD=>Tv A SD λy SP=>Su d y SP){D:ae->ao->Prop}{x:ae->ae->dR ae}(k:∀v L a d y SP,aH b G A SP a->cc d v->cc y L->Su d y SP->wpAny (aS b.prog b.w) b.A (x v L) D b.cU a):
  wpAny (aS b.prog b.w) b.A (ck g b.env) (λv n=>wpAny (aS b.prog b.w) b.A (ck f b.env) (λL o=>wpAny (aS b.prog b.w) b.A (x v L) D b.cU o) b.cU n) b.cU j:=by
 refine bX (h G j A m _ E e) λv p c=>?_;let⟨d,@SD,q,r,s⟩:=c;refine bX (i G p A SD _ q s) λL a c=>?_;let⟨y,@SP,t,u,z⟩:=c;exact k v L a d y SP t r u z
def HO{S9:vF}(a:dV b (f3 S9) u)(c:bN b g P)(h:bN b f Tv):bN b (.BinOp g S9 f SK) (tv u P Tv):=by
 intro G j A m D E e;exact wpAny_BinOp (zj c h E e λv L i d y SP k l n r=>a G i A SP d y v L D k l n r)
def Q9{S9:UnaryOp}{u:aj->ax->cI->Prop}(a:wV b (unaryOp S9) u)(c:bN b g P):bN b (.UnaryOp S9 g SK) (Pe u P):=by
 intro G j A m D E e;exact UnaryOp_ (bX (c G j A m _ E e) λv f ⟨d,SD,h,i,k⟩=>a G f A SD d v D h i k)
def uL{aO:Int->Int->Prop}(c:∀(a i:Int) (I L:iu) (j:ao) (D:ae->ao->Prop) (Sv:ae->ao->Prop),aO a i->D (.int (M a i) j.toks) {j with toks:=j.toks+1}->wpAny (aS b.prog b.w) b.A (x (.int a I)<|.int i L) D Sv j):
  dV b x (pW aO λa i=>.int<|M a i):=by
 intro G j A m d y v L D E f g e;let⟨a,@i,rfl,rfl,h,r⟩:=e;let⟨@I,rfl⟩:=f;let⟨@S5,rfl⟩:=g;exact c a i I S5 j _ _ h ⟨.int<|M a i,m,E.tok _,⟨_,rfl⟩,r⟩
def Fv(c:∀(a i:Int) (I L:iu) (j:ao) (D:ae->ao->Prop) (Sv:ae->ao->Prop),D (.int (M a i) j.toks) {j with toks:=j.toks+1}->wpAny (aS b.prog b.w) b.A (x (.int a I)<|.int i L) D Sv j):
  dV b x (mg λa i=>.int<|M a i):=by
 intro G j A m d y v L D E f g e;let⟨a,@i,rfl,rfl,r⟩:=e;let⟨@I,rfl⟩:=f;let⟨@S5,rfl⟩:=g;exact c a i I S5 j _ _ ⟨.int<|M a i,m,E.tok _,⟨_,rfl⟩,r⟩
def y8{M:Int->Int->Bool}(c:∀(a i:Int) (I L:iu) (j:ao) (D:ae->ao->Prop) (Sv:ae->ao->Prop),D (.bool<|M a i) j->wpAny (aS b.prog b.w) b.A (x (.int a I)<|.int i L) D Sv j):
  dV b x (mg λa i=>.av<|M a i):=by
 intro G j A m d y v L D E f g e;let⟨a,@i,rfl,rfl,r⟩:=e;let⟨@I,rfl⟩:=f;let⟨@S5,rfl⟩:=g;exact c a i I S5 j _ _ ⟨.av<|M a i,m,E,rfl,r⟩
def Qw(a i:Int):Prop:=(0<i/\i<1073741824)
def Ik(a i:Int):Prop:=(0<=i/\i<=1000000/\a.natAbs<2^64)
def Iw:dV b (f3 .Add) (mg λa i=>.int<|a+i):=Fv λ_ W W W W W W r=>add_int r
def II:dV b (f3 .Sub) (mg λa i=>.int<|a-i):=Fv λ_ W W W W W W r=>sub_int r
def QH:dV b (f3 .FloorDiv) (pW Qw λa i=>.int<|a/i):=uL λa i W W W W W c r=>by
 have t:(0:Int)<i:=c.1;have C:i<1073741824:=c.2;exact floordiv_int ⋯ (by rw[Int.fdiv_eq_ediv_of_nonneg a ⋯];exact r) (.inl (PyProof.noPylong_small ⋯))
def MW:dV b (f3 .Mod) (pW (λ_ i=>0<i) λa i=>.int<|a%i):=uL λa i W W W W W c r=>by
 have t:(0:Int)<i:=c;exact mod_int' ⋯ (by rw[Int.fmod_eq_emod_of_nonneg a ⋯];exact r)
def PS:dV b (f3 .Pow) (pW Ik λa i=>.int<|a^i.toNat):=uL λ_ W W W W W W c r=>pow_int_small c.1 c.2.1 c.2.2 r
def RU{x:ae->dR ae}{M:Int->Int}(c:∀(a:Int) (I:iu) (j:ao) (D:ae->ao->Prop) (Sv:ae->ao->Prop),D (.int (M a) j.toks) {j with toks:=j.toks+1}->wpAny (aS b.prog b.w) b.A (x<|.int a I) D Sv j):
  wV b x (Ab λa=>.int<|M a):=by
 intro G j A m d v D E f e;let⟨@a,rfl,r⟩:=e;let⟨@I,rfl⟩:=f;exact c a I j _ _ ⟨.int<|M a,m,E.tok _,⟨_,rfl⟩,r⟩
def P2:wV b (unaryOp .USub) (Ab λa=>.int<|-a):=RU λ_ W W W W r=>neg_int r
def Ld{D:cI}{o a:Bool}(E:aH b G A m j)(r:D (.av o) m)(c:o=a):eO b G A D (.bool a) j:=by
 subst c;exact⟨.av o,m,E,rfl,r⟩
def IB:dV b (d9 .LtE) (mg λa i=>.av<|decide (a<=i)):=y8 λ_ W W W W W W r=>le_int r
def QO:dV b (d9 .Gt) (mg λa i=>.av<|decide (i<a)):=y8 λ_ W W W W W W r=>gt_int r
def Kz:dV b (d9 .GtE) (mg λa i=>.av<|decide (i<=a)):=y8 λ_ W W W W W W r=>ge_int r
def I7:dV b (d9 .IsNot) (λd y m D=>y=.aV/\D (.av<|!decide (d=.aV)) m):=by
 intro G j A m d y v L D E a c e;let@⟨rfl,r⟩:=e;cases c;refine isnot_none_gen (Ld E r ?_);cases d<;>first
  | (cases a;rfl)
  | (let⟨@I,rfl⟩:=a;rfl)
def dV.or(e:dV b x u)(Sq:dV b x Ti):dV b x (λd y m D=>u d y m D\/Ti d y m D):=by
 intro G j A m d y v L D E a c r;rcases r with r|r
 ·exact e G j A m d y v L D E a c r
 ·exact Sq G j A m d y v L D E a c r
def dZ(f:bu){S9:lg}(e:S9≠.In:=by decide)(C:S9≠.NotIn:=by decide):oW S9 f=ar:=by
 have a:(S9==lg.In)=ar:=by cases S9<;>first|rfl|exact absurd rfl e
 have b:(S9==lg.NotIn)=ar:=by cases S9<;>first|rfl|exact absurd rfl C
 cases f<;>simp[oW,a,b]
def Kd(a:dV b (d9 S9) u)(c:bN b g P)(h:bN b f Tv)(i:oW S9 f=ar):bN b (.Compare g [S9] [f] SK) (tv u P Tv):=by
 intro G j A m D E e;exact wpAny_Compare1 (zj c h E e λv L k d y SP l n o r=>a G k A SP d y v L D l n o r) i
def EE(I:b5):ek:=(λA m D=>I A m λd T=>∃o,d=.av o/\D o T)
def LL(a:dV b (d9 S9) u)(i:bN b g P)(k:bN b f Tv)(l:oW S9 f=ar):ho b (.Compare g [S9] [f] SK) (EE<|tv u P Tv):=by
 intro G j A m D E e;refine wpAny_isTrue_Compare1 (bX (i G j A m _ E e) λv n ⟨d,SD,p,q,r⟩=>bX (k G n A SD _ p r) λL s ⟨y,SP,t,w,x⟩=>
  bX (a G s A SP d y v L _ t q w x) λh H ⟨I,z,B,C,o,c,F⟩=>?_) l;subst c;cases C;exact ky ⟨z,B,F⟩
def zb(u Ti:b0)(P Tv TN:b5):b5:=(λA m D=>P A m λd SD=>Tv A SD λy SP=>u d y SP λb a=>∃o,b=.av o/\
 (if o=X then TN A a λc e=>Ti y c e D else D (.av ar) a))
def HI(n:dV b (d9 S9) u)(p:dV b (d9 TK) Ti)(q:bN b g P)(r:bN b f Tv)(t:bN b h TN)(w:uF [S9,TK] [f,h]=ar:=by with_unfolding_all rfl):bN b (.Compare g [S9,TK] [f,h] SK) (zb u Ti P Tv TN):=by
 intro G j A m D E e;refine Compare_chain (bX (q G j A m _ E e) λv x ⟨d,SD,z,B,C⟩=>chain_link (bX (r G x A SD _ z C) λL F ⟨y,SP,H,a,I⟩=>
  bX (n G F A SP d y v L _ H B a I) λs J ⟨al,i,k,M,o,c,l⟩=>?_)) w;subst c;cases M;refine ky ?_;cases o with
 |false=>exact ite_ff ⟨.av ar,i,k,rfl,l⟩
 |true=>exact ite_tt (chain_last<|bX (t G J A i _ k l) λN O ⟨Q,R,S,T,U⟩=>p G O A R y Q L N D S a T U)
def Ky(n:dV b (d9 S9) u)(p:dV b (d9 TK) Ti)(q:bN b g P)(r:bN b f Tv)(t:bN b h TN)(w:uF [S9,TK] [f,h]=ar:=by with_unfolding_all rfl):ho b (.Compare g [S9,TK] [f,h] SK) (EE<|zb u Ti P Tv TN):=by
 intro G j A m D E e;refine isTrue_chain (bX (q G j A m _ E e) λv x ⟨d,SD,z,B,C⟩=>test_link (bX (r G x A SD _ z C) λL F ⟨y,SP,H,a,I⟩=>
  bX (n G F A SP d y v L _ H B a I) λs J ⟨be,i,k,M,o,c,l⟩=>?_)) w;subst c;cases M;refine ky ?_;cases o with
 |false=>
  let⟨@bi,N,O⟩:=l;cases N;exact ite_ff ⟨i,k,O⟩
 |true=>
  refine ite_tt (test_last<|bX (t G J A i _ k l) λQ R ⟨S,T,U,al,am⟩=>bX (p G R A T y S L Q _ U a al am) λbm bn an=>?_);let⟨bs,@ap,as,a1,⟨@S8,a2,bd⟩⟩:=an;subst a2;cases a1;exact ky ⟨ap,as,bd⟩
def v8(So:Φ)(d:aj)(m:ax)(o:Bool):Prop:=(
 match d with
 |.aV=>o=ar
 |.av f=>o=f
 |.int a=>o=(a != 0)
 |.str y=>y.length<=sizeLine/\o=((y.length:Int) != 0)
 |.qG y=>y.size<=sizeLine/\o=((y.size:Int) != 0)
 |.ref q=>(∃w,dk So m q w/\o=!w.isEmpty)\/(∃w,cu So m q w/\o=!w.isEmpty)\/∃SF,m q=Z (.dE SF)/\o=!SF.isEmpty
 |_=>False)
def Jz{SS:Type}{SF:List (SS×aj)}{Sp:List (SS×ae)}(u:fK SF Sp):(!Sp.isEmpty)=!SF.isEmpty:=by
 cases u<;>rfl
def Ga{SG:List ae}(u:bW w SG):(!SG.toArray.isEmpty)=!w.isEmpty:=by
 cases u<;>simp
def m_:(sizeLine:Nat)<2^63:=by rw[tx];decide
def Ob:MJ b (λd m D=>∃o,v8 b.K d m o/\D o m):=by
 intro G j A m d v D E h e;let⟨@o,c,r⟩:=e;have t:=m_;have x:sizeLine=16777216:=tx;cases d with
 |aV=>
  cases h;have g:o=ar:=c;subst g;exact truthy_none ⟨m,E,r⟩
 |av f=>
  cases h;have g:o=f:=c;subst g;exact ky ⟨m,E,r⟩
 |int a=>
  let⟨@I,rfl⟩:=h;have g:o=(a != 0):=c;subst g;exact PySem.P.truthy_int ⟨m,E,r⟩
 |str y=>
  let⟨@I,rfl⟩:=h;obtain⟨p,g⟩:y.length<=sizeLine/\o=((y.length:Int) != 0):=c;subst g;exact PySem.P.truthy_str ⋯ ⟨m,E.tok _,r⟩
 |qG y=>
  let⟨@I,rfl⟩:=h;obtain⟨p,g⟩:y.size<=sizeLine/\o=((y.size:Int) != 0):=c;subst g;exact PySem.W.truthy_bytes ⋯ ⟨m,E.tok _,r⟩
 |ref q=>
  cases h;have g:(∃w,dk b.K m q w/\o=!w.isEmpty)\/(∃w,cu b.K m q w/\o=!w.isEmpty)\/∃SF,m q=Z (.dE SF)/\o=!SF.isEmpty:=c;rcases g with ⟨w,i,g⟩|⟨w,i,g⟩|⟨SF,i,g⟩
  ·subst g;let⟨@SG,u,bD,k⟩:=E.list i;have n:=u.length;exact wpAny_truthy_list bD.isList (by simp only[cO];lia) ⟨m,E.tok _,by rw[Ga u];exact r⟩
  ·subst g;let⟨@SG,u,bD,k⟩:=E.tuple i;have n:=u.length;exact truthy_tuple bD (by simp only[cO];lia) ⟨m,E.tok _,by rw[Ga u];exact r⟩
  ·subst g;obtain⟨k,s,Sp,u,H⟩:SF.length<=sizeLine/\(q==iq)=ar/\∃Sp,fK SF Sp/\j.heap.DictOf (mu b.prog b.w) q Sp:=E.aY q _ i;have n:SF.length=Sp.length:=eg.length u;exact wpAny_truthy_dict s H ⋯ ⟨m,E.tok _,by rw[Jz u];exact r⟩
 |_=>exact (show False from c).elim
def N9(c:bN b g P)(f:∀a,om g b.env a=(do let v <-a;standAt g.pos;holding [v] (truthy v))):
  ho b g (λA m D=>P A m λd T=>∃o,v8 b.K d T o/\D o T):=by
 intro G j A m D E e;exact isTrue_plain (bX (c G j A m _ E e) λv h ⟨d,SD,i,k,l⟩=>Ob G h A SD d v D i k l) (f _)
def PM:dV b (f3 .Add) (λd y m D=>∃a i,d=.str a/\y=.str i/\a.length+i.length<=sizeLine/\D (.str<|a++i) m):=by
 intro G j A m d y v L D E c f e;let⟨a,@i,rfl,rfl,g,r⟩:=e;let⟨@I,rfl⟩:=c;let⟨@S5,rfl⟩:=f;exact add_str (λS5 Tb=>⟨.str<|a++i,m,E.tok _,⟨_,rfl⟩,r⟩) g
def ir{d:aj}(u:bW [d] SO):∃L,SO=[L]/\cc d L:=by
 cases u with
 |cons a b=>cases b;exact⟨_,rfl,a⟩
def qz{d:aj}(u:bW [d,y] SO):∃L a,SO=[L,a]/\cc d L/\cc y a:=by
 cases u with
 |cons b c=>
  cases c with
  |cons e f=>cases f;exact⟨_,_,rfl,b,e⟩
def Jq(d:b.calm=X):eA b (.builtin "max") (λw m D=>∃a i,w=[.int a,.int i]/\D (.int<|if i>a then i else a) m):=by
 intro G j A m w SO D E u e;let⟨a,@i,rfl,r⟩:=e;let⟨L,@f,rfl,⟨@I,rfl⟩,⟨@S5,rfl⟩⟩:=qz u;refine max_two_ints (E.ok.hd d) λSq Tb o=>⟨_,m,E.kept o,?_,r⟩;by_cases c:i>a
 ·rw[aJ c,aJ c];exact⟨_,rfl⟩
 ·rw[aM c,aM c];exact⟨_,rfl⟩
def O0(d:b.calm=X):eA b (.builtin "min") (λw m D=>∃a i,w=[.int a,.int i]/\D (.int<|if i<a then i else a) m):=by
 intro G j A m w SO D E u e;let⟨a,@i,rfl,r⟩:=e;let⟨L,@f,rfl,⟨@I,rfl⟩,⟨@S5,rfl⟩⟩:=qz u;refine min_two_ints (E.ok.hd d) λSq Tb o=>⟨_,m,E.kept o,?_,r⟩;by_cases c:i<a
 ·rw[aJ c,aJ c];exact⟨_,rfl⟩
 ·rw[aM c,aM c];exact⟨_,rfl⟩
def Mu:eA b (.type "int") (λw m D=>(∃a,w=[.int a]/\D (.int a) m)\/∃o,w=[.av o]/\D (.int<|if o then 1 else 0) m):=by
 intro G j A m w SO D E u e;rcases e with ⟨a,rfl,r⟩|⟨o,rfl,r⟩
 ·let⟨@L,rfl,⟨@I,rfl⟩⟩:=ir u;exact call_int_int ⟨.int a,m,E,⟨_,rfl⟩,r⟩
 ·let⟨@L,rfl,c⟩:=ir u;cases c;exact call_int_bool ⟨.int<|if o then 1 else 0,m,E.tok _,⟨_,rfl⟩,r⟩
end
def kT.some_of{n:Option ae}(u:kT (Z v) n):∃L,n=Z L/\cc v L:=by
 cases n with
 |none=>exact (show False from u).elim
 |some L=>exact⟨L,rfl,u⟩
structure eE(o:Nat)(O:bw):Prop where
 hd:O.handled=Y
 xv:O.depth+3*o+5<EF
 un:O.units+16*o+200<b6
 ll:O.guards=Z []
def eE.mono{i:Nat}(u:eE o O)(e:i<=o):eE i O:=⟨u.hd,by have:=u.xv;lia,by have:=u.un;lia,u.ll⟩
def eE.deeper(u:eE (o+1) O)(Sw:eL):eE o (O.deeper Sw):=
 ⟨u.hd,by have:=u.xv;show O.depth+1+3*o+5<_;lia,by have:=u.un;show O.units+3+16*o+200<_;lia,u.ll⟩
def eE.depth(u:eE o O):O.depth<EF:=by have:=u.xv;lia
def Q4:fb:=(λ_ m D=>D [] m)
def Lk(P:b5)(fD:fb):fb:=(λA m D=>P A m λd SD=>fD A SD λw SP=>D (d::w) SP)
section
variable{b:aL}{c:bu}{Sx:List bu}{TA:b5}{I:fb}{SK:Pos}
def DR:h1 b [] Q4:=λ_ W W W m D E e=>Gh ⟨[],m,E,.nil,e⟩
def wm(f:bN b c TA)(g:h1 b Sx I)(h:bV (c::Sx) b.env=(ar,ck c b.env)::bV Sx b.env:=by rfl):h1 b (c::Sx) (Lk TA I):=by
 intro SK G j A m D E e;rw[h];show wpAny _ _ (spliced ((ar,ck c b.env)::f6 SK (bV Sx b.env))) _ _ j;refine zH (bX (f G j A m _ E e) λL i a=>?_);let⟨d,@SD,k,l,n⟩:=a;refine bX (g SK G i A SD _ k n) λSO r a=>?_;let⟨w,@SP,o,p,q⟩:=a;exact⟨d::w,SP,o,.cons l p,q⟩
def QG(I:fb):b5:=(λA m D=>I A m λw SD=>w.length<=sizeLine/\∀q,SD q=Y->D (.ref q) (upd SD q<|.tup w))
def Kg(I:fb):b5:=(λA m D=>I A m λw SD=>w.length<=sizeLine/\∀q,SD q=Y->D (.ref q) (upd SD q<|.lst w))
def HB{h}(e:h1 b Sx I):bN b (.Tuple Sx h SK) (QG I):=by
 intro G j A m D E i;refine wpAny_Tuple_spliced (bX (e SK G j A m _ E i) λSO a ⟨w,SD,d,u,g,r⟩=>⟨by rw[<-u.length];exact g,?_⟩);have k:SD a.heap.objs.size=Y:=d.aY.fresh (bl _);refine⟨.ref a.heap.objs.size,upd SD a.heap.objs.size<|.tup w,d.laid (S5:=a.toks) (λf L c=>cw _ c) (bl _) ?_,rfl,r _ k⟩;exact⟨g,SO,u,⟨_,dx _ rfl,rfl,_,rfl⟩⟩
def Jb(e:h1 b Sx I):bN b (.List Sx SK) (Kg I):=by
 intro G j A m D E h;refine wpAny_List_spliced (bX (e SK G j A m _ E h) λSO a ⟨w,SD,d,u,g,r⟩=>⟨by rw[<-u.length];exact g,?_⟩);have i:SD a.heap.objs.size=Y:=d.aY.fresh (bl _);refine⟨.ref a.heap.objs.size,upd SD a.heap.objs.size<|.lst w,d.laid (S5:=a.toks) (λf L c=>cw _ c) (bl _) ?_,rfl,r _ i⟩;exact⟨g,SO,0,u,dx _ rfl⟩
end
abbrev cK:=List aj->ax->cI->gk->Prop
abbrev jF:=List eL->ax->ao->gk->ae->ao->Prop
variable{F:jF}
structure vg(R:bA)(l:bk)(So:Φ)(az:aD->Option ae)(SA:a5)(O:bw)(Tc:List eL)(j:ao)(m:ax):Prop where
 frames:O.frames=Z Tc
 mod:Mod So az SA
 bs:∀f n,SA.get? f=Z n->j.heap.get? f=Z n/\m f=Y
 kY:SA.objs.size<=j.heap.objs.size
 iO:j.heap.FunFrames SA Tc
 ny:∀f∈h8 Tc,m f=Y
 aY:eb R l m j.heap
 bare:lr j.gens
def yf(Tc:List eL)(R:bA)(l:bk)(m:ax)(j:ao)(D:cI)(L:ae)(Sr:ao):Prop:=(
 ∃v T,Sr.os=j.os/\lr Sr.gens/\fa (h8 Tc) [] m T j.heap Sr.heap/\eb R l T Sr.heap/\cc v L/\D v T)
def PD(F:jF)(Tc:List eL)(R:bA)(l:bk)(m:ax)(j:ao)(D:cI)(Sv:gk)(u:rd)(Sr:ao):Prop:=(
 match u with
 |.ok (.ret L)=>yf Tc R l m j D L Sr
 |.ok _=>False
 |.error c=>F Tc m j Sv c Sr)
structure hC(R:bA)(l:bk)(So:Φ)(az:aD->Option ae)(SA:a5)(F:jF)(o:Nat)(x:af)(fd:gp)(SJ:List aD)(TC:cK):Prop where
 len:∀Sp m D Sv,TC Sp m D Sv->Sp.length=SJ.length
 run:∀(O:bw) (Tc:List eL) (j:ao) (m:ax) (args:Args) (SO:List ae) (Sp:List aj) (D:cI) (Sv:gk),eE o O->vg R l So az SA O Tc j m->lT j fd args (SJ.zip SO)->bW Sp SO->TC Sp m D Sv->
  codeAny (aS R l) O (.call (.ref x) args) (PD F Tc R l m j D Sv) j
section
variable{b:aL}{G:List (af×bj)}{A:a3}{m:ax}{j Sr:ao}
def aH.My(E:aH b G A m j):vg b.prog b.w b.K b.az b.base b.A b.stack j m:=
 ⟨E.ok.frames,E.ok.mod,E.bs,ew E.ok.kY E.kf,E.stack,E.DU,E.aY,E.bare⟩
def aH.after{D:cI}(E:aH b G A m j)(e:yf b.stack b.prog b.w m j D L Sr):eO b G A D L Sr:=by
 let⟨v,@T,P,a,un,aY,u,r⟩:=e;let⟨c,M,s,I,d⟩:=Sr;obtain rfl:d=j.os:=P;exact⟨v,T,E.call (Sq:=c) (i:=M) (s:=s) (S5:=I) (TB:=[]) un aY a (λf g=>absurd g ↥0),u,r⟩
end
def xn(TC:cK)(i:List aj)(Sv:gk)(I:fb):b5:=(λA m D=>I A m λSp SD=>TC (Sp++i) SD D Sv)
def hG(So:Φ)(fd:gp)(SJ:List aD)(J:List ae):Prop:=(
 ∀(j:ao) (SO:List ae),So.In j.heap->(SO++J).length=SJ.length->lT j fd ⟨SO,[]⟩ (SJ.zip<|SO++J))
def hG.all{fd:gp}(e:∀SO:List ae,SO.length=SJ.length->iY fd ⟨SO,[]⟩=pure (SJ.zip SO)):hG So fd SJ []:=λj SO W a=>by
 rw[cB]at a ⊢;exact .of_eq (e SO a)
def tF(F:jF)(b:aL)(Sv:gk):Prop:=(∀(G:List (af×bj)) (A:a3) (m:ax) (j:ao) (c:ae) (Sr:ao),aH b G A m j->F b.stack m j Sv c Sr->b.cU c Sr)
section
variable{b:aL}{F:jF}{o:Nat}{x aO:af}{fd:gp}{SJ:List aD}{TC:cK}{i:List aj}{J:List ae}{Sv:gk}{d H:aD}{q SK Q:Pos}{c n:bu}{Sx:List bu}{P:b5}{I:fb}
def Cz{D:cI}(N:hC b.prog b.w b.K b.az b.base F o x fd SJ TC)(f:eE o b.A)(g:hG b.K fd SJ J)(hd:bW i J)(h:tF F b Sv)(E:aH b G A m j)(u:bW Sp SO)(e:TC (Sp++i) m D Sv):wpAny (aS b.prog b.w) b.A (call (.ref x) SO) (eO b G A D) b.cU j:=by
 have d:bW (Sp++i) (SO++J):=u.append hd;have k:(SO++J).length=SJ.length:=by rw[<-d.length];exact N.len _ _ _ _ e
 refine wpAny_call (zD (N.run b.A b.stack j m ⟨SO,[]⟩ (SO++J) (Sp++i) D Sv f E.My (g j SO E.m5 k) d e) λu Sr a=>?_);cases u with
 |error c=>exact h G A m j c Sr E a
 |ok aT=>
  cases aT with
  |ret L=>exact E.after a
  |next=>exact False.elim a
  |brk=>exact False.elim a
  |cont=>exact False.elim a
def HA(N:hC b.prog b.w b.K b.az b.base F o x fd SJ TC)(f:eE o b.A)(g:eS b d)(h:b.az d=Z (.ref x))(k:Θ b.K (.ref x)=X)(n:hG b.K fd SJ J)(hd:bW i J)(p:tF F b Sv)(s:h1 b (c::Sx) I)(t:(d==("__debug__" : aD))=ar:=by decide)(v:bV (c::Sx) b.env=(ar,ck c b.env)::bV Sx b.env:=by rfl)(y:(f6 SK<|bV Sx b.env).any (·.1)=ar:=by rfl):
  bN b (.Call (.Name d q) (c::Sx) [] SK) (xn TC i Sv I):=by
 intro G j A m D E e;refine rT (D6 E g h ?_ t);refine Bh (h₀:=b.base) E.ok.mod.sl k (bX (s SK G j A m _ E e) λSO B ⟨Sp,SD,a,u,r⟩=>⟨a.m5,?_⟩) v y;exact Cz N f n hd p a u r
end
structure n9(SY R:List aD)(E:gE):Prop where
 kind:E.kind=.function
 co:E.isCoroutine=ar
 gen:E.isGenerator=ar
 ah:SY.Nodup
 pre:SY.take R.length=R
 par:∀d∈R,E.names.lookup d=Z .local\/E.names.lookup d=Z .cell
 NZ:∀y∈E.names,y.2≠.free
theorem Fu{a:aD->Option c6}{d:aD}:∀{binds:List (aD×ae)}{H:aD->Option ae},(∀v,(d,v)∉binds)->bindL a binds H d=H d
 |[],_,_=>rfl
 | (p,v)::u,H,e=>by
  unfold bindL;rw[Fu λl b=>e l<|kB _ b];split
  ·have:d≠p:=by rintro rfl;exact e v kF
   simp[this]
  ·rfl
theorem CD{a:aD->Option c6}{d:aD}:∀{binds:List (aD×ae)}{H:aD->Option ae},(∀v,(d,v)∉binds)->bindC a binds H d=H d
 |[],_,_=>rfl
 | (p,v)::u,H,e=>by
  unfold bindC;rw[CD λl b=>e l<|kB _ b];split
  ·rfl
  ·have:d≠p:=by rintro rfl;exact e v kF
   simp[this]
theorem CW{b:aD->Option c6}{d:aD}{v:ae}:∀{R:List aD}{Sp:List ae}{a:Nat}{H:aD->Option ae},R.Nodup->R[a]?=Z d->Sp[a]?=Z v->b d=Z .local->
  bindL b (R.zip Sp) H d=Z v
 |[],_,_,_,_,e,_,_=>by simp at e
 |_::_,[],_,_,_,_,e,_=>by simp at e
 |q::R,l::Sp,0,H,ah,t,C,c=>by
  simp at t C;subst t;subst C;show bindL b ((q,l)::R.zip Sp) H q=_;unfold bindL;rw[Fu λv f=>(gV.mp ah).1 (x6 f).1,aJ c];simp
 |q::R,l::Sp,a+1,H,ah,t,C,c=>by
  show bindL b ((q,l)::R.zip Sp) H d=_;unfold bindL;exact CW (a:=a) (gV.mp ah).2 ⇑t ⇑C c
theorem zN{b:aD->Option c6}{d:aD}{v:ae}:∀{R:List aD}{Sp:List ae}{a:Nat}{H:aD->Option ae},R.Nodup->R[a]?=Z d->Sp[a]?=Z v->b d≠Z .local->
  bindC b (R.zip Sp) H d=Z v
 |[],_,_,_,_,e,_,_=>by simp at e
 |_::_,[],_,_,_,_,e,_=>by simp at e
 |q::R,l::Sp,0,H,ah,t,C,c=>by
  simp at t C;subst t;subst C;show bindC b ((q,l)::R.zip Sp) H q=_;unfold bindC;rw[CD λv f=>(gV.mp ah).1 (x6 f).1,aM c];simp
 |q::R,l::Sp,a+1,H,ah,t,C,c=>by
  show bindC b ((q,l)::R.zip Sp) H d=_;unfold bindC;exact zN (a:=a) (gV.mp ah).2 ⇑t ⇑C c
def start(SY:List aD)(Sp:List aj):a3:=(Sp.map Z++replicate (SY.length-Sp.length) Y)
def lK(F:jF)(R:bA)(l:bk)(So:Φ)(az:aD->Option ae)(SA:a5)(SY:List aD)(Tu:aD)(SQ:gE)(x:af)(a:ae)(O:bw)(Tc:List eL)(j:ao)(m:ax)(Sv:gk):aL where
 prog:=R
 w:=l
 K:=So
 az:=az
 base:=SA
 A:=O.deeper (jv Tu SQ j.heap.objs.size x a)
 N:=SY
 eZ:=j
 o4:=m
 env:=jv Tu SQ j.heap.objs.size x a
 outer:=Tc
 stack:=jv Tu SQ j.heap.objs.size x a::Tc
 ex:=[]
 calm:=X
 fn:=λ_=>X
 kQ:=[]
 cU:=λc Sr=>wpAny (aS R l) (O.deeper<|jv Tu SQ j.heap.objs.size x a) (leaving (jv Tu SQ j.heap.objs.size x a) c) (λ_ b=>F Tc m j Sv c b) (λd b=>F Tc m j Sv d b) Sr
def CY{E:gE}(e:E.names.lookup d=Z .cell):∃h,(yQ p E.names []).lookup d=Z h:=by
 have r:=Bj E.names p [] (.inl e);exact Option.isSome_iff_exists.mp r
def Jd{x:af}{w:ae}{Tc:List eL}{A:ao}{Sv:gk}(SM:n9 SY SJ SQ)(hd:O.handled=Y)(b:vg R l So az SA O Tc j m)(I:Sp.length=SJ.length)(u:bW Sp SO)(d:InCallC j j.heap.objs.size (bindL (jv Tu SQ j.heap.objs.size x w).kindOf (SJ.zip SO) λ_=>Y) (yQ (j.heap.objs.size+1) SQ.names []) (bindC (jv Tu SQ j.heap.objs.size x w).kindOf (SJ.zip SO) λ_=>Y) A):
  aH (lK F R l So az SA SY Tu SQ x w O Tc j m Sv) [] (start SY Sp) m A:=by
 have J:SJ.length<=SY.length:=by have:=congrArg List.length SM.pre;rw[hy]at this;lia
 let⟨t,@Tb,rfl,B⟩:=d.done;have z:∀f:af,f∉(lK F R l So az SA SY Tu SQ x w O Tc j m Sv).ex:=λf n=>absurd (show f∈([]:List af) from n) ↥0;refine⟨⟨b.mod,SM.kind,rfl,rfl,bl _,λy n h t C=>?_,λy i=>?_,λy h W e=>?_,λ_=>hd,bw.frames_deeper b.frames,.inr ⟨rfl,rfl⟩,λf n=>absurd n<|z f,b.bs,b.kY,λf W W=>z f,λf n=>absurd n<|z f,b.iO,b.ny⟩,
  rfl,b.bare,fa.kept B,⟨_,d.toInCall.ns,λa y v t C M=>?_⟩,λy h e=>⟨_,d.cell y h e⟩,b.aY.fresh<|bl _,λy h e=>?_,λq s=>absurd (show q∈([]:List (af×bj)) from s) ↥0,b.aY.kept B,?_⟩
 ·exact name_of_addr d.apart (PySem.mem_of_lookup t) (PySem.mem_of_lookup C)
 ·have i:SQ.names.lookup y=Z .cell\/SQ.names.lookup y=Z .free:=i;rcases i with i|i
  ·exact CY i
  ·exact absurd rfl (SM.NZ _<|PySem.mem_of_lookup i)
 ·exact rN (d.above y h<|PySem.mem_of_lookup e)
 ·have U:a<Sp.length:=by
   unfold start at C;by_cases U:a<Sp.length
   ·exact U
   ·rw[mL ⇑U]at C;rw[List.getElem?_replicate]at C;split at C<;>cases C
  have G:Sp[a]?=Z v:=by
   unfold start at C;rw[jR ⇑U,gq]at C;cases c:Sp[a]? with
   |none=>rw[c]at C;cases C
   |some g=>rw[c]at C;cases C;rfl
  let⟨@L,D,H⟩:=u.get G;have s:SJ[a]?=Z y:=by
   rw[<-SM.pre,List.getElem?_take_of_lt ⋯];exact t
  have E:SJ.Nodup:=by rw[<-SM.pre];exact SM.ah.sublist (tS _ _)
  refine⟨L,H,?_⟩;rcases SM.par y (j1 s) with o|o
  ·exact .inl ⟨o,CW E s D o⟩
  ·let⟨@h,c⟩:=CY (p:=j.heap.objs.size+1) o;refine .inr ⟨.inl o,h,c,?_⟩;have r:=d.cell y h c;rw[zN E s D (by show SQ.names.lookup y≠_;rw[o];decide)]at r;exact r
 ·exact b.aY.fresh (rN<|d.above y h<|PySem.mem_of_lookup e)
 ·unfold start;show _=SY.length;rw[c5,a9,List.length_replicate];lia
def Ij{x:af}{name:aD}{q:Arguments}{s b7 i S4 Q b3 t:ae}{B H:Option af}{S:Array (Option ae)}{TC:cK}(lk:So.lookup x=Z ⟨t,H,.func<|Ξ name Tu q TG SQ s b7 i S4 B Q b3,S⟩)(C:Δ So Q Tu=X)(SM:n9 SY SJ SQ)(len:∀Sp m D Sv,TC Sp m D Sv->Sp.length=SJ.length)(G:∀(O:bw) (Tc:List eL) (j:ao) (m:ax) (Sp:List aj) (D:cI) (Sv:gk),eE o (O.deeper<|jv Tu SQ j.heap.objs.size x Q)->TC Sp m D Sv->
   ∃I,hV (lK F R l So az SA SY Tu SQ x Q O Tc j m Sv) TG I/\I {bo:=λ_ T=>D .aV T,es:=D} (start SY Sp) m):
  hC R l So az SA F (o+1) x (Ξ name Tu q TG SQ s b7 i S4 B Q b3) SJ TC:=by
 refine⟨len,λO Tc j m args SO Sp D Sv g b J u w=>?_⟩;have M:=len _ _ _ _ w;have z:So.In j.heap:=b.mod.sl.keeps λf n c=>(b.bs f n c).1;have N:j.heap.NoLimit:=b.mod.nolimit.keeps λf n c=>(b.bs f n c).1;have U:∀y∈SJ.zip SO,SQ.names.lookup y.1=Z .local\/(SQ.names.lookup y.1=Z .cell/\((yQ (j.heap.objs.size+1) SQ.names []).lookup y.1).isSome=X):=λ⟨p,v⟩ al=>by
  rcases SM.par p (x6 al).1 with r|r
  ·exact .inl r
  ·exact .inr ⟨r,Bj _ _ _<|.inl r⟩
 refine codeAny_call_function g.depth (z _ _ lk) rfl SM.co SM.gen rfl (PySem.W.codeRec_of z C) (J _ _ _ _ ?_);refine wpAny_newFunctionEnv_cells SM.kind U λSw am A d=>?_;subst am;refine⟨N.keeps d.toInCall.keep,codeAny_func ?_⟩;let⟨@I,an,ap⟩:=G O Tc j m Sp D Sv (g.deeper _) w;have E:aH (lK F R l So az SA SY Tu SQ x Q O Tc j m Sv) [] (start SY Sp) m A:=Jd SM g.hd b M u d;refine hl (an [] A (start SY Sp) m _ E ap) (λaT Sr a=>?_) λc Sr a=>a;have fin:∀{e:a3}{T:ax}{v:aj}{L:ae},aH (lK F R l So az SA SY Tu SQ x Q O Tc j m Sv) [] e T Sr->cc v L->D v T->yf Tc R l m j D L Sr:=
  λ{e T v L} Tw h r=>⟨v,T,Tw.os,Tw.bare,Tw.base,Tw.aY,h,r⟩;cases aT with
 |ret L=>
  let⟨v,e,@T,Tw,h,r⟩:=a;exact fin Tw h r
 |next=>
  let⟨e,@T,Tw,r⟩:=a;exact fin (v:=aj.aV) (L:=ae.none) Tw rfl r
 |brk=>
  let⟨P,@P,P,r⟩:=a;exact False.elim r
 |cont=>
  let⟨P,@P,P,r⟩:=a;exact False.elim r
section
variable{b:aL}{d:aD}{q SK:Pos}{c:bu}{Sx:List bu}{I:fb}{id S:String}{u:List aj->ax->cI->Prop}
def B5(u:List aj->ax->cI->Prop)(I:fb):b5:=(λA m D=>I A m λSp SD=>u Sp SD D)
def FE(a:eA b (.builtin id) u)(f:eS b d)(g:b.az d=Y)(h:e8 d=Z (.builtin id))(i:h1 b (c::Sx) I)(k:d ≠ "__name__" := by decide)(l:(d==("__debug__" : aD))=ar:=by decide)(n:bV (c::Sx) b.env=(ar,ck c b.env)::bV Sx b.env:=by rfl)(o:(f6 SK<|bV Sx b.env).any (·.1)=ar:=by rfl):bN b (.Call (.Name d q) (c::Sx) [] SK) (B5 u I):=by
 intro G j A m D E e;refine rT (n2 E f g h ?_ k l);exact Hw (bX (i SK G j A m _ E e) λSO p ⟨Sp,SD,r,s,t⟩=>a G p A SD Sp SO D r s t) n o
def Nd(a:eA b (.type S) u)(f:eS b d)(g:b.az d=Y)(h:e8 d=Z (.type S))(i:h1 b (c::Sx) I)(k:d ≠ "__name__" := by decide)(l:(d==("__debug__" : aD))=ar:=by decide)(n:bV (c::Sx) b.env=(ar,ck c b.env)::bV Sx b.env:=by rfl)(o:(f6 SK<|bV Sx b.env).any (·.1)=ar:=by rfl):bN b (.Call (.Name d q) (c::Sx) [] SK) (B5 u I):=by
 intro G j A m D E e;refine rT (n2 E f g h ?_ k l);exact qu (bX (i SK G j A m _ E e) λSO p ⟨Sp,SD,r,s,t⟩=>a G p A SD Sp SO D r s t) n o
end
end L2
namespace dr
open PyProof.Rows
variable{U Q:Option Int}{y cf:ae}{aQ I:af}{D:ae->ao->Prop}
theorem Rf(O:bw)(j:ao)(g:Int)(I:iu)(h:Int)(L:iu)(Sz:bA)(l:bk)(Sv:ae->ao->Prop)(D:ae->ao->Prop)(e:D (.bool<|decide (g<h)) j):
  wpAny (aS Sz l) O (nh .Lt (.int g I)<|.int h L) D Sv j:=
 (Ku e:wpAny (aS Sz l) O (d9 .Lt (.int g I)<|.int h L) D Sv j)
section
open PySem.SeqAt
open PySem.AutoSeq1 (wpAny_loadPart')
open PySem.MeetsSeq PySem.MeetsSeq2 PySem.MeetsSeq3
end
section
variable{Sz:bA}{l:bk}{O:bw}{Sv:ae->ao->Prop}{j:ao}
def Mq{f:af}{Sp Ta:List ae}(q:o3 j.heap I Sp.toArray)(r:o3 j.heap f Ta.toArray)(e:Sp≠[])(t:Ta=[]->D (.ref I) j)(C:Ta≠[]->D (.ref j.heap.objs.size) {j with heap:=j.heap.push {cls:=.type "tuple",data:=.seq (Sp++Ta).toArray} })(s:Sp.length+Ta.length<=sizeLine):wpAny (aS Sz l) O (f3 .Add (.ref I)<|.ref f) D Sv j:=by
 let⟨@⟨cls,g,data,aQ⟩,a,h,⟨@p,hd⟩⟩:=id q;let⟨@⟨u,i,data2,k⟩,b,m,⟨@n,o⟩⟩:=id r;simp only at h hd m o;subst h hd m o;have c:Sp.toArray++Ta.toArray=(Sp++Ta).toArray:=by simp
 by_cases d:Ta=[]
 ·exact wq ⟨_,a,rfl⟩ ⟨_,b,rfl⟩ vR we yj xE (ym _ _)
   (tuple_addW1 I f Sp.toArray Ta.toArray p n g i aQ k ⇑e (by simp[d])) ⟨a,b,t d⟩
 ·refine wq ⟨_,a,rfl⟩ ⟨_,b,rfl⟩ vR we yj xE (ym _ _)
   (tuple_addW2 I f Sp.toArray Ta.toArray p n g i aQ k ⇑e ⇑d (by rw[cO,cO];exact s)) ⟨a,b,?_⟩;rw[c];exact C d
def b_(p s:Nat):Option Int->Nat
 |none=>s
 |some v=>if v<0 then (v+(p:Int)).toNat else min v.toNat p
def Mw(p s:Nat):b_ p s Y=s:=rfl
def LC(p s o:Nat):b_ p s (Z (o:Int))=min o p:=by
 show (if (o:Int)<0 then ((o:Int)+(p:Int)).toNat else min (o:Int).toNat p)=min o p;rw[aM ⋯,qn]
def P1(p s:Nat)(hd:s<=p)(n:Option Int):b_ p s n<=p:=by
 cases n with
 |none=>exact hd
 |some v=>
  show (if v<0 then (v+(p:Int)).toNat else min v.toNat p)<=p;by_cases a:v<0
  ·rw[aJ a];lia
  ·rw[aM a];exact Nat.min_le_right _ _
def Fl(v:Int)(p s:Nat):(if v<0 then max (v+(p:Int)) 0 else min v (p:Int))=((b_ p s (Z v):Nat):Int):=by
 show (if v<0 then max (v+(p:Int)) 0 else min v (p:Int))=(((if v<0 then (v+(p:Int)).toNat else min v.toNat p):Nat):Int);by_cases a:v<0
 ·simp only[aJ a];lia
 ·simp only[aM a];lia
def M4(Q U:Option Int)(p:Nat):a_.Slice.sliceAdjust Q U 1 (p:Int)=(((b_ p 0 Q:Nat):Int),((b_ p p U:Nat):Int)):=by
 have t:¬ ((1:Int)<0):=⋯
 unfold a_.Slice.sliceAdjust;simp only[t,gD];refine zB ?_ ?_
 ·cases Q with
  |none=>rfl
  |some v=>exact Fl v p 0
 ·cases U with
  |none=>rfl
  |some v=>exact Fl v p p
def Mg(a i:Nat):a_.Slice.slicePlaces (a:Int) (i:Int) 1=i-a:=by
 unfold a_.Slice.slicePlaces;have t:(1:Int)>0:=⋯
 simp only[t,hx,Int.ediv_one];split<;>lia
def DT{v:ae}{n:Option Int}{D:Option Int->ao->Prop}(q:kq v n)(e:D n j):wpAny (aS Sz l) O (a_.Slice.slicePartIndex v) D Sv j:=by
 cases q with
 |none=>exact FT e
 |int a I=>exact slicePart_int e
def E4{p:Nat}{D:Int×Int×Nat->ao->Prop}(c:j.heap.IsSliceOf aQ cf y .none)(bD:kq cf Q)(f:kq y U)(e:D (((b_ p 0 Q:Nat):Int),1,b_ p p U-b_ p 0 Q) j):wpAny (aS Sz l) O (a_.Slice.sliceApplied (.ref aQ)<|pure (p:Int)) D Sv j:=by
 let⟨@P,a,g,b⟩:=id c;unfold a_.Slice.sliceApplied a_.Slice.sliceFields;refine aw (aw<|hI a b (x:=cf) rfl<|aw<|hI a b (x:=y) rfl<|aw<|hI a b (x:=.none) rfl<|aW ?_);refine aw (FT ?_);show wpAny _ _ (if ((1:Int)==0)=X then _ else _) _ _ j;rw[aM ∅];refine aw (DT bD<|aw<|DT f<|aw<|aW ?_);show wpAny _ _ (match a_.Slice.sliceAdjust Q U 1 (p:Int) with|(Q,U)=>pure (Q,(1:Int),a_.Slice.slicePlaces Q U 1)) _ _ j;rw[M4 Q U p];show wpAny _ _ (pure (((b_ p 0 Q:Nat):Int),(1:Int),a_.Slice.slicePlaces ((b_ p 0 Q:Nat):Int) ((b_ p p U:Nat):Int) 1)) _ _ j;rw[Mg];exact aW e
def IV(w:Array ae)(a o:Nat):((range o).filterMap λ(H:Nat)=>w[((a:Int)+(H:Int)*1).toNat]?).toArray=((w.toList.drop a).take o).toArray:=by
 have c:(λ(H:Nat)=>w[((a:Int)+(H:Int)*1).toNat]?)=λH=>w[a+H]?:=by
  funext H;have:((a:Int)+(H:Int)*1).toNat=a+H:=⋯
  rw[this]
 rw[c];have:=pick_run w a o;rw[List.filterMap_map]at this;have b:((λd=>w[d]?) ∘ λd=>a+d)=λH=>w[a+H]?:=rfl;rw[b]at this;rw[this]
def Jk{S:Array ae}(a:o3 j.heap I S)(c:j.heap.IsSliceOf aQ cf y .none)(bD:kq cf Q)(d:kq y U)(f:¬ (b_ S.size 0 Q=0/\b_ S.size S.size U=S.size))(e:D (.ref j.heap.objs.size) {j with heap:=j.heap.push {cls:=.type "tuple",data:=.seq ((S.toList.drop<|b_ S.size 0 Q).take<|b_ S.size S.size U-b_ S.size 0 Q).toArray} })(m:S.size<=sizeLine):wpAny (aS Sz l) O (l9 (.ref I)<|.ref aQ) D Sv j:=by
 have b:sizeOk (.seq ((S.toList.drop<|b_ S.size 0 Q).take<|b_ S.size S.size U-b_ S.size 0 Q).toArray):=by
  show ((S.toList.drop<|b_ S.size 0 Q).take<|b_ S.size S.size U-b_ S.size 0 Q).toArray.size<=sizeLine;rw[cO,hy,gZ,fy];lia
 have n:b_ S.size S.size U<=S.size:=P1 _ _ (bl _) U;let⟨@P,g,h,o⟩:=id c;have i:j.TypeIs (.ref aQ) "slice" := ⟨P,g,h⟩;unfold l9;try with_reducible refine fB ?_
 first|refine aw (aW ?_)|skip
 refine aw (Cm a.typeIs ∅ ?_);refine aw (k6 (name:=aD.ofString "__getitem__") a.typeIs pg
  (iH pg a.typeIs BN ?_<|DG _ _));show wpAny _ _ (a_.Tuple.tupleItemsOf (.ref I) >>= _) _ _ j;refine aw (B2 a ?_);refine aw (wpAny_typeOf i ?_);rw[aJ ∅];refine aw (E4 c bD d ?_);have k:¬ ((((b_ S.size 0 Q:Nat):Int)==0&&(1:Int)==1&&(b_ S.size S.size U-b_ S.size 0 Q)==S.size)=X):=by
  intro r;rw[cX,cX]at r;have p:((b_ S.size 0 Q:Nat):Int)=0:=eq_of_beq r.1.1;have q:b_ S.size S.size U-b_ S.size 0 Q=S.size:=eq_of_beq r.2;exact f ⟨⋯,⋯⟩
 show wpAny _ _ (if (((b_ S.size 0 Q:Nat):Int)==0&&(1:Int)==1&&(b_ S.size S.size U-b_ S.size 0 Q)==S.size)=X then _ else _) _ _ j;rw[aM k,IV];first
  | exact aw (m:=a_.Tuple.tupleExact _) (ib (aW ⟨_,rfl,aW e⟩) b)
  | exact aw (m:=a_.Tuple.tupleExact _) (ib (aw<|aW<|aW ⟨_,rfl,aW e⟩) b)
  | exact aw (aw (m:=a_.Tuple.tupleExact _)<|ib (aW<|aW ⟨_,rfl,aW e⟩) b)
  | exact aw (aw (m:=a_.Tuple.tupleExact _)<|ib (aW ⟨_,rfl,aW e⟩) b)
end
end dr
namespace L2
open Spec PyProof.Rows
variable{Sq:a5}{D:ae->ao->Prop}{T m:ax}{SF:List (List ab×aj)}{l:bk}{R:bA}{n:Option aj}{S5 p:Nat}{B SG SO:List ae}{q:af}{j:ao}{A:a3}{G:List (af×bj)}{u:b0}{SU:Type}{a:Int}{w:List (List ab×af×ae)}
abbrev cS:=a3->ax->(Option Int->ax->Prop)->Prop
def BL(b:aL)(c:Option bu)(I:cS)(G:List (af×bj)):Prop:=(
 ∀(j:ao) (A:a3) (m:ax) (D:Option Int->ax->Prop),aH b G A m j->I A m D->
  wpAny (aS b.prog b.w) b.A (evalPart c b.env) (λL Sr=>∃n T,aH b G A T Sr/\kq L n/\D n T) b.cU j)
def oh(b:aL)(c:Option bu)(I:cS):Prop:=(∀G,BL b c I G)
def Hv:cS:=(λ_ m D=>D Y m)
def OX(I:b5):cS:=(λA m D=>I A m λd SD=>∃a,d=.int a/\D (Z a) SD)
section
variable{b:aL}{c:bu}{TA:b5}{Q U:Option bu}{TJ i:cS}{SK Tj:Pos}
def N1:oh b Y Hv:=by
 intro G j A m D E e;rw[Ha];exact aW ⟨Y,m,E,.none,e⟩
def Kc(e:bN b c TA):oh b (Z c) (OX TA):=by
 intro G j A m D E f;rw[evalPart_some];refine bX (e G j A m _ E f) λL l g=>?_;let⟨d,@SD,h,i,k⟩:=g;let⟨@a,rfl,r⟩:=k;let⟨@I,rfl⟩:=i;exact⟨Z a,SD,h,.int a I,r⟩
def qt(b:aL)(u:aj->Option Int->Option Int->ax->cI->Prop):Prop:=(
 ∀(G:List (af×bj)) (j:ao) (A:a3) (m:ax) (d:aj) (v cf y:ae) (Q U:Option Int) (aQ:af) (D:cI),aH b G A m j->cc d v->j.heap.IsSliceOf aQ cf y .none->kq cf Q->kq y U->u d Q U m D->
  ∃S id,ve (.type S) "__getitem__" = pure (Z<|.builtin id)/\j.TypeIs v S/\wpAny (aS b.prog b.w) b.A (l9 v<|.ref aQ) (eO b G A D) b.cU j)
def PZ(u:aj->Option Int->Option Int->ax->cI->Prop)(TA:b5)(TJ i:cS):b5:=(λA m D=>TA A m λd SD=>TJ A SD λk SP=>i A SP λL a=>u d k L a D)
def PF{u:aj->Option Int->Option Int->ax->cI->Prop}(n:qt b u)(o:bN b c TA)(p:oh b Q TJ)(q:oh b U i):bN b (.Subscript c (.Slice Q U Y Tj) SK) (PZ u TA TJ i):=by
 intro G j A m D E e;refine Subscript_ (bX (o G j A m _ E e) λv s g=>?_);let⟨d,@SD,t,x,z⟩:=g;refine wpAny_Slice (bX (p G s A SD _ t z) λcf B ⟨k,SP,C,bD,F⟩=>bX (q G B A SP _ C F) λy a g=>?_);let⟨L,@h,H,I,J⟩:=g;rw[Ha];refine aW ?_;have M:aH b G A h {a with heap:=a.heap.push {cls:=.type "slice",data:=.fields #[cf,y,.none]} }:=H.kept (S5:=a.toks) λf T r=>cw _ r;let⟨S,@id,N,P,R⟩:=n G {a with heap:=a.heap.push {cls:=.type "slice",data:=.fields #[cf,y,.none]} } A h d v cf y k L a.heap.objs.size D M x (a5.IsSliceOf.new ..) bD I J;show wpAny (aS b.prog b.w) b.A (Bb c (.Slice Q U Y Tj) v<|.ref a.heap.objs.size) (eO b G A D) b.cU {a with heap:=a.heap.push {cls:=.type "slice",data:=.fields #[cf,y,.none]} };exact tail_any (ops:=[.ref a.heap.objs.size,v]) P N R (by with_unfolding_all rfl)
def mJ(w:List aj)(Q U:Option Int):List aj:=((w.drop<|dr.b_ w.length 0 Q).take (dr.b_ w.length w.length U-dr.b_ w.length 0 Q))
def ED(w:List aj)(Q U:Option Int):(mJ w Q U).length<=w.length:=by
 unfold mJ;rw[hy,gZ];lia
def O6(So:Φ):aj->Option Int->Option Int->ax->cI->Prop:=(λd Q U m D=>∃g w,d=.ref g/\cu So m g w/\
 ¬ (dr.b_ w.length 0 Q=0/\dr.b_ w.length w.length U=w.length)/\∀q,m q=Y->D (.ref q) (upd m q<|.tup<|mJ w Q U))
def LS:qt b (O6 b.K):=by
 intro G j A m d v cf y Q U aQ D E i k bD l e;let⟨g,@w,rfl,o,p,r⟩:=e;cases i;let⟨@SG,u,c,h⟩:=E.tuple o;have a:SG.toArray.size=w.length:=by rw[cO];exact u.length.symm
 refine⟨"tuple",_,pg.lookup,c.typeIs,?_⟩;refine dr.Jk c k bD l (by rw[a];exact p) ?_ (by rw[a];exact h);rw[a];refine⟨.ref j.heap.objs.size,_,E.laid (S5:=j.toks) (n:=.tup (mJ w Q U)) (λf q r=>cw _ r) (bl _) ?_,rfl,r _<|E.aY.fresh<|bl _⟩;exact⟨ew (ED w Q U) h,_,(u.drop<|dr.b_ w.length 0 Q).take<|dr.b_ w.length w.length U-dr.b_ w.length 0 Q,l7.new _ _⟩
def Js(So:Φ):b0:=(λd y m D=>∃g f w SI,d=.ref g/\y=.ref f/\cu So m g w/\cu So m f SI/\w≠[]/\w.length+SI.length<=sizeLine/\
 (SI=[]->D (.ref g) m)/\(SI≠[]->∀q,m q=Y->D (.ref q) (upd m q<|.tup<|w++SI)))
def bW.t_{w:List aj}(u:bW w SO):SO=[]↔w=[]:=by
 cases u with
 |nil=>simp
 |cons _ _=>simp
def Ii:dV b (f3 .Add) (Js b.K):=by
 intro G j A m d y v L D E k o e;let⟨g,f,w,@SI,rfl,rfl,p,q,s,i,t,u⟩:=e;cases k;cases o;let⟨@SG,h,x,W⟩:=E.tuple p;let⟨@z,c,Tj,W⟩:=E.tuple q;refine dr.Mq x Tj (λa=>s<|h.t_.mp a) (λa=>⟨.ref g,m,E,rfl,t<|c.t_.mp a⟩) (λa=>?_) (by rw[<-h.length,<-c.length];exact i);refine⟨.ref j.heap.objs.size,_,E.laid (S5:=j.toks) (n:=.tup (w++SI)) (λf B r=>cw _ r) (bl _) ?_,rfl,u (λl=>a<|c.t_.mpr l) _<|E.aY.fresh<|bl _⟩;exact⟨by rw[c5];exact i,_,h.append c,l7.new _ _⟩
end
def jA(p:Nat)(a:Int):Option Nat:=(if 0<=a then (if a<p then Z a.toNat else Y) else if -(p:Int)<=a then Z (a+p).toNat else Y)
def dH{SU:Type}(w:List SU)(a:Int):Option SU:=((jA w.length a).bind λi=>w[i]?)
def Cg{i:Nat}(e:jA p a=Z i):wF a p=Z i/\i<p /\ -(p:Int)<=a/\a<p:=by
 unfold jA at e;by_cases b:0<=a
 ·rw[aJ b]at e;by_cases t:a<p
  ·rw[aJ t]at e;have c:a.toNat=i:=Option.some.inj e;exact⟨by rw[tD b t,c],⋯,⋯,t⟩
  ·rw[aM t]at e;cases e
 ·rw[aM b]at e;by_cases t : -(p:Int)<=a
  ·rw[aJ t]at e;have c:(a+p).toNat=i:=Option.some.inj e;exact⟨by rw[zF ⋯ t,c],⋯,t,⋯⟩
  ·rw[aM t]at e;cases e
def Ar{w:List SU}{v:SU}(e:dH w a=Z v):∃i,wF a w.length=Z i/\w[i]?=Z v/\i<w.length /\ -(w.length:Int)<=a/\a<w.length:=by
 unfold dH at e;cases c:jA w.length a with
 |none=>rw[c]at e;cases e
 |some i=>
  rw[c]at e;let@⟨t,C,b,d⟩:=Cg c;exact⟨i,t,e,C,b,d⟩
def vE(f:bu):Prop:=(∀n a,subscripted f ar n a=operate [n,a] (l9 n a))
def iK(b:aL)(u:b0):Prop:=(
 ∀(H a:bu) (G:List (af×bj)) (j:ao) (A:a3) (m:ax) (d y:aj) (v L:ae) (D:cI),aH b G A m j->cc d v->cc y L->u d y m D->
  subscripted a ar v L=operate [v,L] (l9 v L)->wpAny (aS b.prog b.w) b.A (Bb H a v L) (eO b G A D) b.cU j)
def uS(b:aL)(id:String)(u:aj->List aj->ax->cI->Prop):Prop:=(
 ∀(G:List (af×bj)) (j:ao) (A:a3) (m:ax) (d:aj) (w:List aj) (v:ae) (SO:List ae) (D:cI),aH b G A m j->cc d v->bW w SO->u d w m D->
  wpAny (aS b.prog b.w) b.A (call (.builtin id) (v::SO)) (eO b G A D) b.cU j)
section
variable{b:aL}{g f:bu}{P Tv:b5}{SK:Pos}
def iK.or{Ti:b0}(e:iK b u)(Sq:iK b Ti):iK b (λd y m D=>u d y m D\/Ti d y m D):=by
 intro H a G j A m d y v L D E c f r g;rcases r with r|r
 ·exact e H a G j A m d y v L D E c f r g
 ·exact Sq H a G j A m d y v L D E c f r g
def HR(a:iK b u)(c:bN b g P)(h:bN b f Tv)(i:vE f):bN b (.Subscript g f SK) (tv u P Tv):=by
 intro G j A m D E e;exact Subscript_ (zj c h E e λv L k d y SP l n o r=>a g f G k A SP d y v L D l n o r<|i _ _)
def Q3(So:Φ):b0:=(λd y m D=>∃q w a v,d=.ref q/\y=.int a/\dk So m q w/\dH w a=Z v/\D v m)
def K4(So:Φ):b0:=(λd y m D=>∃q w a v,d=.ref q/\y=.int a/\cu So m q w/\dH w a=Z v/\D v m)
def HG:iK b (Q3 b.K):=by
 intro H J G j A m d y v L D E k n e f;let⟨q,w,a,@o,rfl,rfl,p,s,r⟩:=e;cases k;let⟨@I,rfl⟩:=n;let⟨@SG,u,bD,M⟩:=E.list p;let⟨@i,t,C,N,x,z⟩:=Ar s;let⟨@l,g,B⟩:=u.get C;have F:=u.length;have O:=m_;have fin:eO b G A D l j:=⟨o,m,E,B,r⟩;by_cases h:0<=a
 ·have c:a.toNat=i:=by
   rw[tD h z]at t;exact Option.some.inj t
  exact item_listR bD.isList h ⋯ (by rw[c];simpa using g) fin f
 ·have c:(a+(SG.toArray.size:Int)).toNat=i:=by
   rw[zF ⋯ x]at t;rw[cO,<-F];exact Option.some.inj t
  exact Dc (x:=l) bD.isList.typeIs Fb.lookup
   (wpAny_getItem_list_neg (Q:=λu Sr=>u=l/\eO b G A D u Sr) bD.isList ⋯ (by rw[cO]<;>lia) ⋯ (by rw[c];simpa using g) ⟨rfl,fin⟩) f
def O7:iK b (K4 b.K):=by
 intro H x G j A m d y v L D E c f e g;let⟨q,w,a,@h,rfl,rfl,k,n,r⟩:=e;cases c;let⟨@I,rfl⟩:=f;let⟨@SG,u,bD,z⟩:=E.tuple k;let⟨@i,t,C,B,F,J⟩:=Ar n;let⟨@l,o,p⟩:=u.get C;have s:=u.length;have M:=m_;have fin:eO b G A D l j:=⟨h,m,E,p,r⟩;exact Dc (x:=l) bD.typeIs slot_tuple_getitem.lookup
  (getItem_tuple (j:=i) (Q:=λu Sr=>u=l/\eO b G A D u Sr) bD ⋯ ⋯ (by rw[cO,<-s];exact t) ⇑o ⟨rfl,fin⟩) g
def Ie(SG:List ae)(p i:Nat)(L:ae):bj.mapSeq (·.setIfInBounds i L) {cls:=.type "list",data:=.seq SG.toArray p}={cls:=.type "list",data:=.seq (SG.set i L).toArray p}:=by
 simp[bj.mapSeq]
variable{w:List aj}
def aH.lst(E:aH b G A m j)(e:m q=Z (.lst w)):
  ∃(SG:List ae) (p:Nat),bW w SG/\j.heap.get? q=Z {cls:=.type "list",data:=.seq SG.toArray p}/\w.length<=sizeLine:=by
 let@⟨a,⟨SG,@p,u,c⟩⟩:=E.aY q _ e;exact⟨SG,p,u,c,a⟩
def aH.Lc{SI:List aj}{a:Nat}{x:bj->bj}(E:aH b G A m j)(e:m q=Z (.lst w))(h:j.heap.get? q=Z {cls:=.type "list",data:=.seq SG.toArray p})(g:x {cls:=.type "list",data:=.seq SG.toArray p}={cls:=.type "list",data:=.seq B.toArray a})(u:bW SI B)(i:SI.length<=sizeLine)(I:Nat):
  aH b G A (upd m q<|.lst SI) {j with heap:=j.heap.update q x,toks:=I}:=by
 have c:(j.heap.update q x).get? q=Z {cls:=.type "list",data:=.seq B.toArray a}:=by
  rw[l2 x h (by rw[g]<;>rfl),g]
 refine E.write (d:=q) (c:=q) (by rw[e];trivial) (.inl rfl) (λf L k r=>(ks _ _<|fP k).trans r) ⟨_,c⟩ ?_;exact⟨i,B,a,u,c⟩
def Nh:aj->aj->aj->ax->(ax->Prop)->Prop:=(λn a v m D=>∃q w o i,n=.ref q/\a=.int o/\m q=Z (.lst w)/\jA w.length o=Z i/\D (upd m q<|.lst<|w.set i v))
def Mz:v_ b Nh:=by
 intro G j A m n a v H J L D E z x y e;let⟨q,w,o,@i,rfl,rfl,g,B,r⟩:=e;cases z;let⟨@I,rfl⟩:=x;let⟨SG,@p,u,c,F⟩:=E.lst g;let@⟨t,C,h,k⟩:=Cg B;have d:=u.length;have M:=m_;have l:aH b G A (upd m q<|.lst<|w.set i v) {j with heap:=j.heap.update q (bj.mapSeq (·.setIfInBounds i L))}:=
  E.Lc g c (Ie SG p i L) (u.set y i) (by rw[w5];exact F) j.toks;by_cases s:0<=o
 ·have f:o.toNat=i:=by
   rw[tD s k]at t;exact Option.some.inj t
  exact PySem.W.ki_setAt c s ⋯ (by rw[cO,<-d];exact k) (by rw[f];exact⟨_,l,r⟩)
 ·have f:(o+(SG.toArray.size:Int)).toNat=i:=by
   rw[zF ⋯ h]at t;rw[cO,<-d];exact Option.some.inj t
  exact PySem.W.ki_setBack c ⋯ (by rw[cO,<-d];exact h) ⋯ (by rw[f];exact⟨_,l,r⟩)
def Jx(Q U:Option Int)(p:Nat):(nM Q U Y p).1=((dr.b_ p 0 Q:Nat):Int)/\(nM Q U Y p).2.1=((dr.b_ p p U:Nat):Int)/\(nM Q U Y p).2.2=1:=by
 refine⟨?_,?_,rfl⟩
 ·cases Q with
  |none=>simp[nM,dr.b_]
  |some a=>
   simp only[nM,dr.b_,F5,show (1:Int)>0 by decide,hx];by_cases e:a<0
   ·simp only[e,hx]<;>lia
   ·simp only[e,gD]<;>lia
 ·cases U with
  |none=>simp[nM,dr.b_]
  |some a=>
   simp only[nM,dr.b_,F5,show (1:Int)>0 by decide,hx];by_cases e:a<0
   ·simp only[e,hx]<;>lia
   ·simp only[e,gD]<;>lia
def QM(SG:List ae)(Q U:Option Int):slicePick SG.toArray Q U Y=((SG.drop<|dr.b_ SG.length 0 Q).take<|dr.b_ SG.length SG.length U-dr.b_ SG.length 0 Q).toArray:=by
 let@⟨t,C,a⟩:=Jx Q U SG.toArray.size;unfold slicePick;rw[t,C,a];simp only[sliceRange_one,pick_run,cO]<;>rfl
def I_(So:Φ):aj->Option Int->Option Int->ax->cI->Prop:=(λd Q U m D=>∃g w,d=.ref g/\dk So m g w/\∀q,m q=Y->D (.ref q) (upd m q<|.lst<|mJ w Q U))
def D7:qt b (I_ b.K):=by
 intro G j A m d v cf y Q U aQ D E c h bD i e;let⟨g,@w,rfl,k,r⟩:=e;cases c;let⟨@SG,u,a,l⟩:=E.list k;have o:=u.length;refine⟨"list",_,Fb.lookup,a.isList.typeIs,?_⟩;refine wpAny_getItem_list_slice a.isList h bD i .none ↥0 ?_ (by rw[cO]<;>lia);rw[QM,<-o];refine⟨.ref j.heap.objs.size,_,E.laid (S5:=j.toks) (n:=.lst (mJ w Q U)) (λf p r=>cw _ r) (bl _) ?_,rfl,r _<|E.aY.fresh<|bl _⟩;exact⟨ew (ED w Q U) l,_,0,(u.drop<|dr.b_ w.length 0 Q).take<|dr.b_ w.length w.length U-dr.b_ w.length 0 Q,dx _ rfl⟩
def H8:eA b (.builtin "len") (λw m D=>∃q SI,w=[.ref q]/\(dk b.K m q SI\/cu b.K m q SI)/\D (.int SI.length) m):=by
 intro G j A m w SO D E u e;let⟨q,@SI,rfl,a,r⟩:=e;let⟨@L,rfl,d⟩:=ir u;cases d;have g:=m_;rcases a with a|a
 ·let⟨@SG,Ti,bD,f⟩:=E.list a;have c:=Ti.length;exact Calls.call_len_list bD.isList (by simp only[cO]<;>lia) ⟨.int SI.length,m,E.tok _,⟨j.toks+1,by rw[cO,c]⟩,r⟩
 ·let⟨@SG,Ti,bD,f⟩:=E.tuple a;have c:=Ti.length;exact len_tuple bD (by simp only[cO]<;>lia) ⟨.int SI.length,m,E.tok _,⟨j.toks+1,by rw[cO,c]⟩,r⟩
def M1:eA b (.builtin "len") (λw m D=>∃a,w=[.str a]/\a.length<=sizeLine/\D (.int a.length) m):=by
 intro G j A m w SO D E u e;let⟨@a,rfl,c,r⟩:=e;let⟨@L,rfl,⟨@I,rfl⟩⟩:=ir u;have d:=m_;exact len_str ⋯ ⟨.int a.length,m,E.tok _,⟨_,rfl⟩,r⟩
def eA.or{x:ae}{u Ti:List aj->ax->cI->Prop}(e:eA b x u)(Sq:eA b x Ti):eA b x (λw m D=>u w m D\/Ti w m D):=by
 intro G j A m w SO D E rs r;rcases r with r|r
 ·exact e G j A m w SO D E rs r
 ·exact Sq G j A m w SO D E rs r
def QT:eA b (.type "tuple") (λw m D=>∃q SI,w=[.ref q]/\((dk b.K m q SI/\∀k,m k=Y->D (.ref k) (upd m k<|.tup SI))\/(cu b.K m q SI/\D (.ref q) m))):=by
 intro G j A m w SO D E u e;let⟨q,@SI,rfl,e⟩:=e;let⟨@L,rfl,h⟩:=ir u;cases h;rcases e with ⟨a,r⟩|⟨a,r⟩
 ·let⟨@SG,Ti,bD,d⟩:=E.list a;have o:=Ti.length;refine call_tuple_list bD.isList (λSq ea=>?_) (by simp only[cO]<;>lia);have g:aH b G A m {j with heap:=Sq}:=E.kept (S5:=j.toks) ea;have i:aH b G A (upd m Sq.objs.size<|.tup SI) {j with heap:=Sq.push {cls:=.type "tuple",data:=.seq SG.toArray} }:=
   g.laid (S5:=j.toks) (λf n c=>cw _ c) (bl _) (show e7 b.prog b.w _ _ _ (.tup SI) from ⟨d,SG,Ti,l7.new _ _⟩);exact⟨.ref Sq.objs.size,_,i,rfl,r _<|g.aY.fresh<|bl _⟩
 ·let⟨@SG,Ti,bD,d⟩:=E.tuple a;exact call_tuple_same bD ⟨.ref q,m,E,rfl,r⟩
def lB(So:Φ)(S:String)(d:aj)(m:ax):Prop:=(match d with
 |.str _=>S = "str"
 |.int _=>S = "int"
 |.ref q=>(S = "list" /\ ∃w,dk So m q w)\/(S = "tuple" /\ ∃n,So.lookup q=Z n/\n.cls=.type "tuple" /\ n.dict=Y)\/
   (S = "dict" /\ ((∃SF,m q=Z (.dE SF))\/∃SF,m q=Z (.ay SF)))\/(S = "set" /\ ∃SM p,m q=Z (.set SM p))
 |_=>False)
def Cb{S:String}{d:aj}{v:ae}(E:aH b G A m j)(u:cc d v)(ty:lB b.K S d m):
  j.TypeIs v S/\∀g,v=.ref g->∃k,j.heap.get? g=Z k/\k.dict=Y:=by
 cases d with
 |str f=>
  let⟨@I,rfl⟩:=u;cases (show S = "str" from ty);exact⟨typeIs_str j f I,λ_ c=>nomatch c⟩
 |int a=>
  let⟨@I,rfl⟩:=u;cases (show S = "int" from ty);exact⟨typeIs_int j a I,λ_ c=>nomatch c⟩
 |ref q=>
  cases u;rcases ty with ⟨rfl,w,l⟩|⟨rfl,n,e,o,hd⟩|⟨rfl,e⟩|⟨rfl,SM,p,e⟩
  ·let⟨@SG,W,bD,W⟩:=E.list l;refine⟨bD.isList.typeIs,λg c=>?_⟩;cases c;let⟨n,@p,c,h,hd,W⟩:=bD;exact⟨n,c,hd⟩
  ·refine⟨⟨n,E.m5 q n e,o⟩,λg c=>?_⟩;cases c;exact⟨n,E.m5 _ n e,hd⟩
  ·have f:∃n,j.heap.get? q=Z n/\n.ExactDict:=by
    rcases e with ⟨SF,e⟩|⟨SF,e⟩
    ·let@⟨_,_,⟨@_,_,⟨n,_,@_,c,Th,_⟩⟩⟩:=E.aY q _ e;exact⟨n,c,Th⟩
    ·let@⟨_,_,⟨@_,_,⟨n,_,@_,c,Th,_⟩⟩⟩:=E.aY q _ e;exact⟨n,c,Th⟩
   let⟨@n,c,Th⟩:=f;refine⟨⟨n,c,Th.1⟩,λg i=>?_⟩;cases i;exact⟨n,c,Th.2.1⟩
  ·let⟨n,W,W,@W,c,Th,W⟩:=E.aY q _ e;refine⟨⟨n,c,Th.1⟩,λg i=>?_⟩;cases i;exact⟨n,c,Th.2.1⟩
 |_=>exact False.elim ty
def HM(So:Φ)(S:String)(u:aj->List aj->ax->cI->Prop)(i:b5):b5:=(λA m D=>i A m λd SD=>lB So S d SD/\u d [] SD D)
def Kf(So:Φ)(S:String)(u:aj->List aj->ax->cI->Prop)(i:b5)(I:fb):b5:=(λA m D=>i A m λd SD=>lB So S d SD/\I A SD λw SP=>u d w SP D)
variable{n c:bu}{Sx:List bu}{i:b5}{I:fb}{name:aD}{Q k:Pos}{S id:String}{u:aj->List aj->ax->cI->Prop}
def PV(bU:tr S)(f:Slot S name id)(g:sa (.builtin id)=pure (.type "method_descriptor"))(h:uS b id u)(l:bN b n i)(o:vj n name b.env (ck n b.env)=ck n b.env:=by rfl)(p:(Q.endLine==k.line)=X:=by rfl):bN b (.Call (.Attribute n name Q) [] [] k) (HM b.K S u i):=by
 intro G j A m D E e;refine wpAny_Call_method0_late o p (bX (l G j A m _ E e) λv q r=>?_);let⟨d,@SD,a,c,ty,s⟩:=r;let@⟨t,C⟩:=Cb a c ty;exact⟨S,id,bU,f,g,t,C,B0 rfl<|PySem.evalArgs_none<|h G q A SD d [] v [] D a c .nil s⟩
def QE(bU:tr S)(l:Slot S name id)(o:sa (.builtin id)=pure (.type "method_descriptor"))(p:uS b id u)(q:bN b n i)(r:h1 b (c::Sx) I)(s:vj n name b.env (ck n b.env)=ck n b.env:=by rfl)(w:((f6 k<|bV (c::Sx) b.env).all (λd=>!d.1)&&(backToKw k<|keywordEach [] b.env).all (λd=>d.1.isSome)
   && decide ((c::Sx).length+([]:List sd).length+(if ([]:List sd).isEmpty then 0 else 1)<30))=X:=by rfl)(x:(Q.endLine==k.line)=X:=by rfl)(y:bV (c::Sx) b.env=(ar,ck c b.env)::bV Sx b.env:=by rfl)(z:(f6 k<|bV Sx b.env).any (·.1)=ar:=by rfl):
  bN b (.Call (.Attribute n name Q) (c::Sx) [] k) (Kf b.K S u i I):=by
 intro G j A m D E e;refine wpAny_Call_method_late s w x rfl (bX (q G j A m _ E e) λv B a=>?_);let⟨d,@SD,f,g,ty,F⟩:=a;let@⟨t,C⟩:=Cb f g ty;refine⟨S,id,bU,l,o,t,C,?_⟩;have h:=r k G B A SD _ f F;rw[y]at h ⊢;refine B0 (by show (ar || (f6 k<|bV Sx b.env).any (·.1))=ar;rw[z]<;>rfl) (Calls.evalArgs_plain ?_);refine bX h λSO H a=>?_;let⟨Sp,@SP,J,L,M⟩:=a;exact p G H A SP d Sp v SO D J g L M
end
def vZ(b:aL)(id:String)(u:aj->List aj->ax->cI->Prop):Prop:=(
 ∀(G:List (af×bj)) (j:ao) (A:a3) (m:ax) (d:aj) (w:List aj) (v:ae) (SO:List ae) (D:cI),aH b G A m j->cc d v->bW w SO->u d w m D->
  wpAny (aS b.prog b.w) b.A (call (.builtin id) (v::SO)) (eO b G A D) b.cU j)
theorem bW.one:∀{d:aj}{SO:List ae},bW [d] SO->∃L,SO=[L]/\cc d L
 |_,_,.cons u .nil=>⟨_,rfl,u⟩
theorem bW.zero:∀{SO:List ae},bW [] SO->SO=[]
 |_,.nil=>rfl
def bW.dropLast{w:List aj}(e:bW w SO):bW w.dropLast SO.dropLast:=by
 induction e with
 |nil=>exact .nil
 |cons u I a=>
  cases I with
  |nil=>exact .nil
  |cons r S5=>exact .cons u a
theorem bW.eraseIdx:∀{w:List aj}{SO:List ae} (a:Nat),bW w SO->bW (w.eraseIdx a) (SO.eraseIdx a)
 |_,_,_,.nil=>.nil
 |_,_,0,.cons _ I=>I
 |_,_,a+1,.cons u I=>.cons u (bW.eraseIdx a I)
def RI(k:List SU):k.eraseIdx (k.length-1)=k.dropLast:=by
 induction k with
 |nil=>rfl
 |cons g u a=>
  cases u with
  |nil=>rfl
  |cons f u=>
   have c:(g::f::u).length-1=((f::u).length-1)+1:=by
    have t:(g::f::u).length=u.length+2:=rfl;have C:(f::u).length=u.length+1:=rfl;lia
   rw[c,List.eraseIdx_cons_succ,a];all_goals rfl
theorem Bp{SU:Type}:∀(k:List SU) (a:Nat),(k.eraseIdx a).length<=k.length
 |[],_=>bl _
 |_::_,0=>Aq _
 |_::u,a+1=>z8 (Bp u a)
section
variable{b:aL}{G:List (af×bj)}{A:a3}{m:ax}{j:ao}{k f:af}{w SI M:List aj}
def aH.ud{x:Array ae->Array ae}(E:aH b G A m j)(a:m k=Z (.lst w))(c:j.heap.get? k=Z {cls:=.type "list",data:=.seq SG.toArray p})(e:x SG.toArray=B.toArray)(f:bW SI B)(g:SI.length<=sizeLine):
  aH b G A (upd m k<|.lst SI) {j with heap:=j.heap.update k (bj.mapSeq x),toks:=S5}:=by
 have r:=Bq c x;rw[e]at r;refine E.write (d:=k) (c:=k) (by rw[a];exact trivial) (.inl rfl) (λl L h i=>(ks j.heap (bj.mapSeq x)<|fP h).trans i) ⟨_,r⟩ ?_;exact⟨g,B,_,f,r⟩
def aH.RH(E:aH b G A m j)(a:bW SI SG)(c:SI.length<=sizeLine):
  aH b G A (upd m j.heap.objs.size<|.lst SI) {j with heap:=j.heap.push {cls:=.type "list",data:=.seq SG.toArray},toks:=S5}:=
 E.laid (λ_ W r=>cw _ r) (bl _) ⟨c,SG,0,a,dx _ rfl⟩
def aH.fresh(E:aH b G A m j):m j.heap.objs.size=Y:=E.aY.fresh (bl _)
def aH.hZ(E:aH b G A m j)(a:m k=Z (.lst w)):w.length<=sizeLine/\∃(SG:List ae) (p:Nat),bW w SG/\w.length=SG.length/\j.heap.get? k=Z {cls:=.type "list",data:=.seq SG.toArray p}:=by
 let@⟨d,⟨SG,@p,u,c⟩⟩:=E.aY k _ a;exact⟨d,SG,p,u,u.length,c⟩
def Kn(e:p<=sizeLine):a_.List.listTooLong p=ar:=by
 unfold a_.List.listTooLong;exact dm ⋯
end
section
variable{b:aL}
def Rc:aj->List aj->ax->cI->Prop:=(λd Sp m D=>∃k w y,d=.ref k/\Sp=[y]/\m k=Z (.lst w)/\w.length<sizeLine/\D .aV (upd m k<|.lst<|w++[y]))
def NJ:vZ b "list.append" Rc:=by
 intro G j A m d Sp v SO D E f g e;let⟨k,w,@y,rfl,rfl,a,i,r⟩:=e;cases f;let⟨@L,rfl,h⟩:=g.one;let@⟨z,⟨SG,@p,u,l,c⟩⟩:=E.hZ a;refine ox Gp ⟨_,c,rfl⟩ Hb (Ah _ _) (Bz k SG.toArray p L (by rw[cO];lia)) ⟨c,?_⟩;refine⟨.aV,_,E.ud (B:=SG++[L]) a c ↥0 (u.append<|.cons h .nil) ?_,rfl,r⟩;rw[c5,eD];lia
def ME:aj->List aj->ax->cI->Prop:=(λd Sp m D=>∃k w y,d=.ref k/\Sp=[]/\m k=Z (.lst w)/\w[w.length-1]?=Z y/\D y (upd m k<|.lst w.dropLast))
def QI:vZ b "list.pop" ME:=by
 intro G j A m d Sp v SO D E f g e;let⟨k,w,@y,rfl,rfl,a,h,r⟩:=e;cases f;have i:=g.zero;subst i;let@⟨z,⟨SG,@p,u,l,c⟩⟩:=E.hZ a;let⟨@L,n,o⟩:=u.get h;have q:SG.toArray[SG.toArray.size-1]?=Z L:=by
  show SG.toArray[SG.length-1]?=Z L;rw[<-gU,<-l];exact n
 refine ox AO ⟨_,c,rfl⟩ AR (F.args_list_pop_1 _) (MeetsSeq.list_pop_last k SG.toArray p L q (by rw[cO];lia)) ⟨c,?_⟩;refine⟨y,_,E.ud (B:=SG.dropLast) a c ?_ u.dropLast ?_,o,r⟩
 ·show SG.toArray.eraseIdxIfInBounds (SG.toArray.size-1)=SG.dropLast.toArray;rw[cO,w9,RI]
 ·rw[z9];lia
def RC:aj->List aj->ax->cI->Prop:=(λd Sp m D=>∃k w a o y,d=.ref k/\Sp=[.int a]/\m k=Z (.lst w) /\ -(2^63)<=a/\a<2^63/\wF a w.length=Z o/\w[o]?=Z y/\D y (upd m k<|.lst<|w.eraseIdx o))
def Pd:vZ b "list.pop" RC:=by
 intro G j A m d Sp v SO D E g h e;let⟨k,w,a,o,@y,rfl,rfl,f,t,C,i,n,r⟩:=e;cases g;let⟨@L,rfl,q⟩:=h.one;let⟨@I,rfl⟩:=q;let@⟨z,⟨SG,@p,u,s,c⟩⟩:=E.hZ f;let⟨@l,x,H⟩:=u.get n;refine ox AO ⟨_,c,rfl⟩ AR (F.args_list_pop_2 _ _)
  (MeetsSeq.list_pop_at k SG.toArray p a I o l (fitsIndex_both t C) (by rw[cO,<-s];exact i) (by rw[<-gU];exact x) (by rw[cO];lia)) ⟨c,?_⟩;refine⟨y,_,E.ud (B:=SG.eraseIdx o) f c ?_ (u.eraseIdx o) ?_,H,r⟩
 ·show SG.toArray.eraseIdxIfInBounds o=(SG.eraseIdx o).toArray;rw[w9]
 ·have:=Bp w o;lia
def MD:b0:=(λd y m D=>∃k f w M,d=.ref k/\y=.ref f/\m k=Z (.lst w)/\m f=Z (.lst M)/\w.length+M.length<=sizeLine/\∀q,m q=Y->D (.ref q) (upd m q<|.lst<|w++M))
def Hi:dV b (f3 .Add) MD:=by
 intro G j A m d y v L D E g h e;let⟨k,f,w,@M,rfl,rfl,i,l,s,r⟩:=e;cases g;cases h;let@⟨z,⟨SG,@p,u,t,c⟩⟩:=E.hZ i;let@⟨x,⟨a,@B,n,C,o⟩⟩:=E.hZ l;refine PySem.P.add_list c o ?_ (by rw[cO,cO];lia);have q:SG.toArray++a.toArray=(SG++a).toArray:=by simp
 rw[q];exact⟨.ref _,_,E.RH (S5:=j.toks) (u.append n) (by rw[c5];lia),rfl,r _ E.fresh⟩
end
section
variable{SS:Type}[DecidableEq SS]
def hW(SF:List (SS×aj))(o:SS):Option aj:=((SF.find? λa=>decide (a.1=o)).map (·.2))
def fk(SF:List (SS×aj))(o:SS)(v:aj):List (SS×aj):=(
 if (SF.any λa=>decide (a.1=o))=X then SF.map (λa=>if a.1=o then (a.1,v) else a) else SF++[(o,v)])
def t8{q:SS×aj}{u:List (SS×aj)}{o:SS}(c:q.1=o):hW (q::u) o=Z q.2:=by simp[hW,jE,c]
def vm{q:SS×aj}{u:List (SS×aj)}{o:SS}(c:¬ q.1=o):hW (q::u) o=hW u o:=by simp[hW,jE,c]
theorem Fy(o:SS):∀SF:List (SS×aj),(SF.any λa=>decide (a.1=o))=(hW SF o).isSome
 |[]=>rfl
 |q::u=>by
  rw[l1];by_cases c:q.1=o
  ·simp only[t8 c,dw c,Bool.true_or,Option.isSome_some]
  ·rw[vm c,dm c,Bool.false_or];exact Fy o u
def AB(SF:List (SS×aj))(o:SS)(v:aj):(fk SF o v).length<=SF.length+1:=by
 unfold fk;split
 ·rw[a9];lia
 ·rw[c5,dF,hc];lia
def kT.q3{L:Option ae}(u:kT n L):n.isSome=L.isSome:=by
 cases n with
 |none=>cases L with
  |none=>rfl
  |some _=>exact (show False from u).elim
 |some _=>cases L with
  |none=>exact (show False from u).elim
  |some _=>rfl
def fK.val{SF:List (SS×aj)}{Sp:List (SS×ae)}(u:fK SF Sp)(o:SS):kT (hW SF o) (nX Sp o):=by
 unfold fK at u;induction u with
 |nil=>exact True.intro
 |@cons q r SJ a e I d=>
  let@⟨t,C⟩:=e;by_cases c:q.1=o
  ·have b:r.1=o:=t.symm.trans c;have f:nX (r::a) o=Z r.2:=by simp[nX,jE,b]
   rw[t8 c,f];exact C
  ·have b:¬ r.1=o:=λg=>c (t.trans g);have f:nX (r::a) o=nX a o:=by simp[nX,jE,b]
   rw[vm c,f];exact d
def fK.any{SF:List (SS×aj)}{Sp:List (SS×ae)}(u:fK SF Sp)(o:SS):(SF.any λa=>decide (a.1=o))=Sp.any λa=>decide (a.1=o):=by
 unfold fK at u;induction u with
 |nil=>rfl
 |cons e I b=>rw[l1,l1,b,e.1]
def fK.xt{SF:List (SS×aj)}{Sp:List (SS×ae)}(u:fK SF Sp)(o:SS){y:aj}{L:ae}(b:cc y L):
  fK (SF.map λa=>if a.1=o then (a.1,y) else a) (Sp.map λa=>if a.1=o then (a.1,L) else a):=by
 unfold fK at u ⊢;induction u with
 |nil=>exact .nil
 |@cons q r SJ g e I d=>
  rw[cE,cE];refine .cons ?_ d;let@⟨t,C⟩:=e;by_cases c:q.1=o
  ·rw[aJ c,aJ<|t.symm.trans c];exact⟨t,b⟩
  ·rw[aM c,aM<|λf=>c<|t.trans f];exact⟨t,C⟩
def fK.put{SF:List (SS×aj)}{Sp:List (SS×ae)}(u:fK SF Sp)(o:SS){y:aj}{L:ae}(a:cc y L):fK (fk SF o y) (stored Sp o L):=by
 unfold fk stored;rw[u.any o];by_cases c:(Sp.any λb=>decide (b.1=o))=X
 ·rw[aJ c,aJ c];exact u.xt o a
 ·rw[aM c,aM c];exact eg.snoc u ⟨rfl,a⟩
def fK.length{SF:List (SS×aj)}{Sp:List (SS×ae)}(u:fK SF Sp):SF.length=Sp.length:=eg.length u
end
def uR{o:eo}{L:ae}(u:cc (b7 o) L):(mu R l).is o L=X:=by
 cases o with
 |inl a=>let⟨@I,c⟩:=(show ∃I,L=ae.int a I from u);subst c;exact Rx R l a I
 |inr d=>let⟨@I,c⟩:=(show ∃I,L=ae.str d I from u);subst c;exact HV R l d I
abbrev eM(m:ax):List (List ab×aj)->List (List ab×af×ae)->Prop:=eg λq r=>q.1=r.1/\hM m q.1 r.2.1/\cc q.2 r.2.2
def eM.val(u:eM m SF w)(o:List ab):kT (hW SF o) ((kO w o).map (·.2)):=by
 induction u with
 |nil=>exact True.intro
 |@cons q r SJ a e I d=>
  let@⟨t,_,C⟩:=e;by_cases c:q.1=o
  ·have b:r.1=o:=t.symm.trans c;have f:kO (r::a) o=Z r.2:=by simp[kO,jE,b]
   rw[t8 c,f];exact C
  ·have b:¬ r.1=o:=λg=>c (t.trans g);have f:kO (r::a) o=kO a o:=by simp[kO,jE,b]
   rw[vm c,f];exact d
def eM.xt(u:eM m SF w)(o:List ab){y:aj}{L:ae}(b:cc y L):
  eM m (SF.map λa=>if a.1=o then (a.1,y) else a) (w.map<|putAt o L):=by
 induction u with
 |nil=>exact .nil
 |@cons q r SJ h e I d=>
  rw[cE,cE];refine .cons ?_ d;let@⟨t,C,f⟩:=e;unfold putAt;by_cases c:q.1=o
  ·rw[aJ c,aJ<|t.symm.trans c];exact⟨t,C,b⟩
  ·rw[aM c,aM<|λg=>c<|t.trans g];exact⟨t,C,f⟩
def eM.put(u:eM m SF w)(o:List ab){f:af}{y:aj}{L:ae}(b:hM m o f)(a:cc y L):
  eM m (fk SF o y) (kr w o f L):=by
 have c:(SF.any λd=>decide (d.1=o))=(kO w o).isSome:=by
  rw[Fy,(u.val o).q3,s7]
 unfold fk kr;rw[c];by_cases r:(kO w o).isSome=X
 ·rw[aJ r,aJ r];exact u.xt o a
 ·rw[aM r,aM r];exact eg.snoc u ⟨rfl,b,a⟩
def eM.keeps(u:eM m SF w)(b:∀f SI,m f=Z (.tup SI)->T f=Z (.tup SI)):eM T SF w:=
 eg.so u λ_ W a=>⟨a.1,a.2.1.mono b,a.2.2⟩
section
variable{R:bA}{l:bk}{m:ax}{e:a5}{g:af}
def Ae{L:gm}(ok:eb R l m e)(c:kU m g L):e7 R l m e g L:=c.ok ok
def pN{SF:List (eo×aj)}(ok:eb R l m e)(c:kU m g (.dE SF)):SF.length<=sizeLine/\(g==iq)=ar/\∃Sp,fK SF Sp/\e.DictOf (mu R l) g Sp:=
 show e7 R l m e g (.dE SF) from Ae ok c
def IZ{SF:List (eo×aj)}(ok:eb R l m e)(c:m g=Z (.dE SF)):SF.length<=sizeLine/\(g==iq)=ar/\∃Sp,fK SF Sp/\e.DictOf (mu R l) g Sp:=pN ok (.inl c)
mutual
theorem cD.fh(ok:eb R l m e):∀{s:ab}{v:aj}{L:ae},cD m s v->cc v L->dS e s L
 |.aV,_,_,c,u=>by cases (show _=aj.aV from c);exact u
 |.av f,_,_,c,u=>by cases (show _=aj.av f from c);exact u
 |.int a,_,_,c,u=>by cases (show _=aj.int a from c);exact u
 |.str d,_,_,c,u=>by cases (show _=aj.str d from c);exact u
 |.fn g,_,_,c,u=>by cases (show _=aj.ref g from c);exact u
 |.tup J,_,_,c,u=>by
  let⟨g,@w,rfl,t,C⟩:=c;cases u;let@⟨_,⟨@SG,b,⟨@n,h,i,⟨@p,j⟩⟩⟩⟩:=(show e7 R l m e g (.tup w) from ok g _ t);exact⟨g,n,SG.toArray,p,rfl,h,(Prod.mk.inj i).1,j,by simpa using bM.fh ok C b⟩
 |.aT J,_,_,c,u=>by
  let⟨g,w,@n,rfl,t,C⟩:=c;cases u;exact⟨g,rfl⟩
 |.fd,_,_,c,u=>by
  let⟨g,@n,rfl,t⟩:=c;cases u;exact⟨g,rfl⟩
theorem bM.fh(ok:eb R l m e):∀{J:List ab}{Sp:List aj}{SO:List ae},bM m J Sp->bW Sp SO->d0 e J SO
 |[],_,_,c,u=>by cases (show _=[] from c);cases u;rfl
 |s::J,_,_,c,u=>by
  let⟨v,@I,rfl,t,C⟩:=c;cases u with
  |cons a b=>exact⟨_,_,rfl,cD.fh ok t a,bM.fh ok C b⟩
end
def l5{SH:List ab}(ok:eb R l m e)(c:hM m SH g):(gu R l).is e SH g:=⟨c.1,c.2.fh ok rfl⟩
def ov{R:bA}{l:bk}{O:bw}(e:O.units+20<b6):(gu R l).room O.in1:=show O.units+1+10<b6 by lia
def qv(ok:eb R l m e)(c:kU m g (.ay SF)):SF.length<=sizeLine/\(g==iq)=ar/\
  ∃w,eM m SF w/\e.DictOfH (gu R l) g w:=by
 let@⟨f,y,⟨@w,u,⟨n,Sx,@Tg,t,C,h,i,j⟩⟩⟩:=(show e7 R l m e g (.ay SF) from Ae ok c);refine⟨f,y,w,u,n,Sx,Tg,t,C,h,i,λd a=>?_,j⟩;have all:∀{k:List (List ab×aj)}{H:List (List ab×af×ae)},eM m k H->∀d∈H,(gu R l).is e d.1 d.2.1:=by
  intro k H r;induction r with
  |nil=>intro d a;exact nomatch a
  |@cons q r SJ p b I o=>
   intro d a;rcases cq.mp a with c|a
   ·subst c;exact l5 ok (by rw[<-b.1];exact b.2.1)
   ·exact o d a
 exact all u d a
def qM(ok:eb R l m e)(c:m g=Z (.ay SF)):SF.length<=sizeLine/\(g==iq)=ar/\
  ∃w,eM m SF w/\e.DictOfH (gu R l) g w:=qv ok (.inl c)
end
def gz(m:ax)(g:af)(y:aj)(u:Option aj):Prop:=(
 (∃SF o,kU m g (.dE SF)/\y=b7 o/\u=hW SF o)\/∃SF o f,kU m g (.ay SF)/\y=.ref f/\hM m o f/\u=hW SF o)
def nu(m:ax)(g:af)(y v:aj)(T:ax):Prop:=(
 (∃SF o,m g=Z (.dE SF)/\y=b7 o/\SF.length<sizeLine/\T=upd m g (.dE<|fk SF o v))\/
 ∃SF o f,m g=Z (.ay SF)/\y=.ref f/\hM m o f/\SF.length<sizeLine/\T=upd m g (.ay<|fk SF o v))
def gz.k{m:ax}{g:af}{SF:List (eo×aj)}{o:eo}(c:m g=Z (.dE SF)):gz m g (b7 o) (hW SF o):=.inl ⟨SF,o,.inl c,rfl,rfl⟩
def gz.t{m:ax}{g f:af}{SF:List (List ab×aj)}{o:List ab}(c:m g=Z (.ay SF))(a:hM m o f):gz m g (.ref f) (hW SF o):=.inr ⟨SF,o,f,.inl c,rfl,a,rfl⟩
def nu.k{m:ax}{g:af}{SF:List (eo×aj)}{o:eo}{v:aj}(c:m g=Z (.dE SF))(a:SF.length<sizeLine):nu m g (b7 o) v (upd m g<|.dE<|fk SF o v):=.inl ⟨SF,o,c,rfl,a,rfl⟩
def nu.t{m:ax}{g f:af}{SF:List (List ab×aj)}{o:List ab}{v:aj}(c:m g=Z (.ay SF))(a:hM m o f)(b:SF.length<sizeLine):
  nu m g (.ref f) v (upd m g<|.ay<|fk SF o v):=.inr ⟨SF,o,f,c,rfl,a,b,rfl⟩
section
variable{b:aL}{G:List (af×bj)}{A:a3}{m:ax}{j:ao}{g:af}{y v:aj}{L u:ae}{n:Option aj}{O:bw}{Sv:ae->ao->Prop}
def aH.big(E:aH b G A m j):iq<j.heap.objs.size:=by
 have e:dJ<j.heap.objs.size:=(E.mod.glob.keeps E.e1).lt;exact FI ∅ e
def RO(t:O.units+20<b6)(E:aH b G A m j)(M:gz m g y (Z v))(s:cc y L)(e:∀a Sr,aH b G A m Sr->cc v a->D a Sr):
  wpAny (aS b.prog b.w) O (l9 (.ref g) L) D Sv j:=by
 rcases M with ⟨SF,o,c,d,k⟩|⟨SF,o,f,c,d,u,k⟩
 ·subst d;let@⟨z,hd,⟨@Sp,h,i⟩⟩:=pN E.aY c;let⟨@a,p,r⟩:=kT.some_of (v:=v) (n:=nX Sp o) (by rw[k];exact h.val o);exact wpAny_getItem_of (uR s) i.mapOf p (e a _ (E.tok _) r)
 ·subst d;cases (show L=ae.ref f from s);let@⟨z,hd,⟨@w,h,i⟩⟩:=qv E.aY c;let⟨@a,p,r⟩:=kT.some_of (v:=v) (n:=(kO w o).map (·.2)) (by rw[k];exact h.val o);let⟨@q,x,B⟩:=cJ.mp p;refine wpAny_getItem_heap (ov t) (l5 E.aY u) i x ?_;rw[B];exact e a _ (E.tok _) r
def y4(p:O.units+20<b6)(E:aH b G A m j)(M:gz m g y n)(i:cc y L)(e:∀Sr,aH b G A m Sr->D (.bool n.isSome) Sr):
  wpAny (aS b.prog b.w) O (d9 .In L<|.ref g) D Sv j:=by
 rcases M with ⟨SF,o,c,a,k⟩|⟨SF,o,f,c,a,q,k⟩
 ·subst a;let@⟨z,hd,⟨@Sp,d,h⟩⟩:=pN E.aY c;refine wpAny_in_of (uR i) hd h.mapOf ?_;rw[<-(d.val o).q3,<-k];exact e _ (E.tok _)
 ·subst a;cases (show L=ae.ref f from i);let@⟨z,hd,⟨@w,d,h⟩⟩:=qv E.aY c;refine wpAny_in_heap (ov p) (l5 E.aY q) hd h ?_;have r:=(d.val o).q3;rw[s7]at r;rw[<-r,<-k];exact e _ (E.tok _)
def wi(p:O.units+20<b6)(E:aH b G A m j)(M:gz m g y n)(i:cc y L)(e:∀Sr,aH b G A m Sr->D (.bool<|!n.isSome) Sr):
  wpAny (aS b.prog b.w) O (d9 .NotIn L<|.ref g) D Sv j:=by
 rcases M with ⟨SF,o,c,a,k⟩|⟨SF,o,f,c,a,q,k⟩
 ·subst a;let@⟨z,hd,⟨@Sp,d,h⟩⟩:=pN E.aY c;refine wpAny_notIn_of (uR i) hd h.mapOf ?_;rw[<-(d.val o).q3,<-k];exact e _ (E.tok _)
 ·subst a;cases (show L=ae.ref f from i);let@⟨z,hd,⟨@w,d,h⟩⟩:=qv E.aY c;refine wpAny_notIn_heap (ov p) (l5 E.aY q) hd h ?_;have r:=(d.val o).q3;rw[s7]at r;rw[<-r,<-k];exact e _ (E.tok _)
def te{a:gm}(E:aH b G A m j)(e:q8 (m g))(h:a5.SameBut g j.heap Sq)(i:∃r,Sq.get? g=Z r)(new:e7 b.prog b.w (upd m g a) Sq g a):
  aH b G A (upd m g a) {j with heap:=Sq,toks:=S5}:=
 E.write (d:=g) (c:=g) e (.inl rfl) (λf r k n=>(h.2 f k).trans n) i new
def Qy{SF:List (eo×aj)}{Sp:List (eo×ae)}(a:SF.length<=sizeLine)(hd:(g==iq)=ar)(b:fK SF Sp)(c:Sq.DictOf (mu R l) g Sp):
  e7 R l T Sq g (.dE SF):=⟨a,hd,Sp,b,c⟩
def ET{D:Unit->ao->Prop}(J:O.units+20<b6)(E:aH b G A m j)(M:nu m g y v T)(B:cc y L)(F:cc v u)(e:∀Sr,aH b G A T Sr->D () Sr):
  wpAny (aS b.prog b.w) O (vs (.ref g) L u) D Sv j:=by
 rcases M with ⟨SF,o,c,p,k,q⟩|⟨SF,o,f,c,p,H,k,q⟩
 ·subst p q;let@⟨a,hd,⟨@Sp,d,s⟩⟩:=IZ E.aY c;have t:Sp.length<=sizeLine:=by rw[<-d.length];exact a
  have x:(fk SF o v).length<=sizeLine:=by have:=AB SF o v;lia
  refine wpAny_setItem_pairs (hsz:=t) (uR B) s λSq i z=>e _ ?_;have P:∃r,Sq.get? g=Z r:=let ⟨r,_,_,n,_⟩:=i;⟨r,n⟩
  exact te E (by rw[c];exact True.intro) z P (Qy x hd (d.put o F) i)
 ·subst p q;cases (show L=ae.ref f from B);let@⟨a,hd,⟨@w,d,s⟩⟩:=qM E.aY c;have t:w.length<=sizeLine:=by rw[<-eg.length d];exact a
  have x:(fk SF o v).length<=sizeLine:=by have:=AB SF o v;lia
  refine wpAny_setItem_heap (hsz:=t) (ov J) (l5 E.aY H) s λSq i z=>e _ ?_;let⟨r,Sx,@Tg,n,C,Q,R,W,S⟩:=i;refine te E (by rw[c];exact True.intro) z ⟨r,n⟩ ⟨x,hd,_,(d.put o H F).keeps λh SI I=>?_,r,Sx,Tg,n,C,Q,R,S⟩;rw[c2 (zw I c<|λa=>nomatch a)];exact I
end
section
variable{b:aL}{G:List (af×bj)}{A:a3}{m:ax}{j:ao}{g:af}{SF:List (eo×aj)}{o:eo}{L:ae}{O:bw}{Sv:ae->ao->Prop}
def MY(E:aH b G A m j)(c:kU m g (.dE SF))(e:∀I Sr,aH b G A m Sr->D (.int SF.length I) Sr):wpAny (aS b.prog b.w) O (call (.builtin "len") [.ref g]) D Sv j:=by
 let@⟨z,hd,⟨@Sp,a,d⟩⟩:=pN E.aY c;refine call_len_dict hd d (by rw[<-a.length];rw[tx]at z;lia) ?_;rw[<-a.length];exact e _ _ (E.tok _)
end
def Ov{b:aL}{g:af}{y:aj}(E:aH b G A m j)(M:gz m g y n):j.TypeIs (.ref g) "dict" := by
 rcases M with ⟨SF,o,c,_,_⟩|⟨SF,o,f,c,_,_,_⟩
 ·let@⟨_,_,⟨@Sp,_,a⟩⟩:=pN E.aY c;exact a.typeIs
 ·let@⟨_,_,⟨@w,_,a⟩⟩:=qv E.aY c;exact a.typeIs
def CI(e:a5)(a:iq<e.objs.size):e7 R l m (e.push {cls:=.type "dict",data:=.dict #[]}) e.objs.size (.ay []):=
 ⟨gI _,w8.mpr<|fP<|dU a,[],.nil,_,#[],0,dx _ rfl,⟨rfl,rfl,rfl⟩,rfl,rfl,jb⟩
def NA:b5:=(λ_ m D=>∀q,m q=Y->D (.ref q) (upd m q<|.ay []))
section
variable{b:aL}{SK:Pos}
def IQ:bN b (.Dict [] [] SK) NA:=λG j A m D E e=>
 wpAny_Dict_empty ⟨.ref j.heap.objs.size,_,E.laid (g:=j.heap.objs.size) (n:=.ay []) (S5:=j.toks) (λ_ W r=>cw _ r) (bl _)<|CI j.heap E.big,rfl,e _<|E.aY.fresh<|bl _⟩
end
end L2
namespace FP
open PySem.W PySem.Calls PyProof.Rows
variable{p:Nat}{k:OpenLaw}
def RQ{R:sW}{e:a5}:∀(Q:List Int) (Sp:List ae),WellAll R e Sp (Q.map p9.int)->rO Sp Q:=by
 intro Q;induction Q with
 |nil=>
  intro Sp l;rw[D8]at l;cases l;exact .nil
 |cons p Q a=>
  intro Sp l;rw[cE]at l;cases l with
  |cons g f=>
   cases g;exact .cons _ _ (a _ f)
def Mn(h:k.most=Z p){R:sW}{e:a5}{args:List p9}{c:List ae}(d:k.row.toRowW.claim.pre args=X)(i:WellAll R e c args):
  ∃g Sp Q,c=[ae.ref g]/\args=[p9.list (Q.map p9.int)]/\e.get? g=Z {cls:=.type "list",data:=.seq Sp.toArray}/\rO Sp Q/\Q.length<=p:=by
 have lp:qZ.hasAll [] args [.list .int]=X:=(pre_splitW d).1;have f:k.pre.holds [] {args:=args}=X:=(pre_splitW d).2;let⟨s,@u,rfl,t,C⟩:=hasAllW_cons lp;obtain rfl:=hasAllW_nil C;let⟨@w,rfl,j⟩:=hasW_list t;let⟨@Q,rfl⟩:=items_int j;have l:Q.length<=p:=by
  unfold OpenLaw.pre at f;have a:(WTm.not<|.lt (.lit<|.int (p:Int))<|.len<|.arg 0).holds [] {args:=[.list (Q.map .int)]}=X:=by
   have a:=(holds_andW f).1;rw[h]at a;exact a
  have b:=condW_of a (w_not<|w_lt w_lit<|w_len_list<|w_arg rfl);rw[a9]at b;refine uW λr=>?_;have m:(p:Int)<((Q.length:Nat):Int):=⋯
  first
   | (rw[dw m]at b;exact absurd b ∅)
   | (simp at b;lia)
 cases i with
 |cons n o=>
  cases o;cases n with
  |list q v=>exact⟨_,_,Q,rfl,rfl,q,RQ Q _ v,l⟩
def Ll(k:OpenLaw)(args:List p9):k.row.toRowW.claim.post args (.bool X) args=X:=
 postW_of (r:=k.row.toRowW) (X:=(X==X))
  (show qZ.has [] (.bool X) .bool=X by first|rfl|decide|simp[qZ.has,qZ.arms,qZ.armsAll])
  (show (WTm.eq .res<|.lit<|.bool X).value [] {args:=args,res:=Z (.bool X),after:=args}=Z (.bool<|X==X) from w_eq_bool (w_res rfl) w_lit) rfl
def IT{r:bA}{d:List aD}{e:(aD->Option ae)->a5->Prop}{f:bk->a5->Prop}{s:DefRec}(j:k.most=Z p)(m:s.params.defaults=[])(call:∀(l:bk) (eZ a:ao) (az c:aD->Option ae) (ej:af) (n:bj) (S4 b i:ae) (g:af) (Sp:List ae) (Q:List Int),
   Ground r d [] e l eZ az c a.heap->f l a.heap->
   a.heap.get? ej=Z n->n.data=.func (docDef s.name s.params s.body s.scope S4 b i)->a.heap.CodeRec b s.name->az s.name=Z (.ref ej)->
   a.heap.get? g=Z {cls:=.type "list",data:=.seq Sp.toArray}->rO Sp Q->Q.length<=p->a.gens=#[]->
   codeAny (aS k.prog l) oa (.call (.ref ej) ⟨[.ref g],[]⟩) (λu Sr=>u=.ok (.ret<|.bool X)/\OldK a.heap Sr.heap/\Sr.os=a.os/\lr Sr.gens) a):
  WalkO r d e f k.row.toRowW s [] (λx Sp=>PySem.call x Sp):=by
 intro l eZ a az c Ss o ej n S4 b i q b7 t hd v h w y args J L z M N A O;obtain rfl:q=.none:=Dflts.none h m;obtain rfl:b7=.none:=Dflts.noKw h;let⟨g,Sp,@Q,rfl,rfl,B,D,E⟩:=Mn j z A;refine enter_call (zD (call l eZ a az c ej n S4 b i g Sp Q Ss o t (fd_plain hd) v w B D E y) λu Sr F=>?_);let@⟨rfl,C,G,H⟩:=F;exact⟨.inl ⟨.bool X,.bool X,[],rfl,λ_=>rfl,.bool X,Ll k _,λ_=>⟨List.Pairwise.nil,λ_ I=>(nomatch I)⟩⟩,C,G,H⟩
end FP
namespace L2
open Spec PyProof.Rows
variable{SJ:List aD}{x:af}{z:b9}{Tu d:aD}{fd:gp}{o:Nat}
theorem zX:∀{Sp:List ae}{Q:List Int},rO Sp Q->bW (Q.map aj.int) Sp
 |_,_,.nil=>.nil
 |_,_,.cons p I e=>.cons ⟨I,rfl⟩ (zX e)
def tJ(m:ax):Prop:=(∀f,m f=Y\/∃n w,m f=Z (.ec n<|.lst w))
def Ng{R:bA}{l:bk}{So:Φ}{az x:aD->Option ae}{F:jF}{ej g:af}{TC:cK}{a:ao}{Sp:List ae}{Q:List Int}(A:So.In a.heap)(B:a.heap.Ns dJ az)(h:a.heap.Ns t6 x)(al:∀d:aD,d ≠ "__name__" -> x d=e8 d)(am:a.heap.NoLimit)(an:a.gens=#[])(k:a.heap.get? g=Z {cls:=.type "list",data:=.seq Sp.toArray})(U:rO Sp Q)(D:Q.length<=sizeLine)(ap:eE o oa)(N:∀SA:a5,So.In SA->SA.Ns dJ az->hC R l So az SA F o ej fd [d] TC)(as:∀(j:ao) (L:ae),lT j fd ⟨[L],[]⟩ [(d,L)])(a1:∀m:ax,tJ m->dk So m g (Q.map aj.int)->TC [.ref g] m (λv K=>v=.av X) λ_ K K=>False)(a2:∀m c Sr,F [] m a (λ_ K K=>False) c Sr->False):
  codeAny (aS R l) oa (.call (.ref ej) ⟨[.ref g],[]⟩) (λu Sr=>u=.ok (.ret<|.bool X)/\OldK a.heap Sr.heap/\Sr.os=a.os/\lr Sr.gens) a:=by
 have E:=zX U;have bd:=U.length;have G:∀m:ax,tJ m->dk So m g (Q.map aj.int)->eb R l m a.heap->(∀f,m f≠Y->f=g)->(m g≠Y->So.lookup g=Y)->
   codeAny (aS R l) oa (.call (.ref ej) ⟨[.ref g],[]⟩) (λu Sr=>u=.ok (.ret<|.bool X)/\OldK a.heap Sr.heap/\Sr.os=a.os/\lr Sr.gens) a:=by
  intro m I be aY J bi;have M:∀{f:af}{n:bj},a.heap.get? f=Z n->m f=Y->(kW a.heap m).get? f=Z n:=λc p=>Pb c p;have bm:∀{f:af}{n:bj}{Sx:Array qD}{Tg:Nat},a.heap.get? f=Z n->n.data=.dict Sx Tg->m f=Y:=λ{f n Sx Tg} c s=>by
   cases r:m f with
   |none=>rfl
   |some L=>
    have y:f=g:=J f (by rw[r];simp);subst y;rw[k]at c;cases c;have bn:mY.seq Sp.toArray _=mY.dict Sx Tg:=s;cases bn
  have q:∀{f:af}{H:aD->Option ae},a.heap.Ns f H->(kW a.heap m).Ns f H:=λ{f H} ⟨n,Sx,Tg,c,s,u⟩=>⟨n,Sx,Tg,M c<|bm c s,s,u⟩;have O:So.In (kW a.heap m):=λf n c=>M (A f n c) (by
   cases r:m f with
   |none=>rfl
   |some L=>
    have y:f=g:=J f (by rw[r];simp);subst y;rw[bi (by rw[r];simp)]at c;cases c)
  have bs:Mod So az (kW a.heap m):=⟨O,q B,⟨x,q h,al⟩,let ⟨bv,t,C⟩:=am;⟨bv,q t,C⟩⟩;have ca:vg R l So az (kW a.heap m) oa [] a m:=⟨rfl,bs,λf n c=>LH c,Nat.le_of_eq<|Lz _ _,trivial,λf h=>absurd (show f∈([]:List af) from h) ↥0,aY,.of_eq an⟩;refine zD ((N _ O<|q B).run oa [] a m ⟨[.ref g],[]⟩ [.ref g] [.ref g] _ _ ap ca (as a<|.ref g) (.cons rfl .nil)<|a1 m I be) λu Sr e=>?_;cases u with
  |error c=>exact (a2 m c Sr e).elim
  |ok aT=>
   cases aT with
   |next=>exact False.elim e
   |brk=>exact False.elim e
   |cont=>exact False.elim e
   |ret L=>
    let⟨v,@T,P,cd,un,ce,Ti,r⟩:=e;have ch:v=.av X:=r;subst ch;obtain rfl:L=ae.bool X:=Ti;refine⟨rfl,OldK.of_keep λf n c=>?_,P,cd⟩;cases r:m f with
    |none=>exact un.keep f n c r (by intro b;exact absurd (show f∈([]:List af) from b) ↥0) ↥0
    |some L=>
     rcases I f with b|⟨ci,w,b⟩
     ·rw[r]at b;cases b
     ·have cl:=un.j9 f ci _ b;let@⟨S,_⟩:=aY f _ b;let@⟨co,_⟩:=ce f _ cl;rw[c]at S;cases S;exact co
 cases z:So.lookup g with
 |some n=>
  have c:=A g n z;rw[k]at c;cases c;refine G (λ_=>Y) (λ_=>.inl rfl) (.inr ⟨_,Sp.toArray,_,z,rfl,rfl,rfl,by rw[cO,bd];exact D,by simpa using E⟩) (λf L b=>by have i:(Y:Option gm)=Z L:=b;cases i) (λf b=>absurd rfl b) λb=>absurd rfl b
 |none=>
  refine G (λf=>if f=g then Z (.ec {cls:=.type "list",data:=.seq Sp.toArray} (.lst<|Q.map aj.int)) else Y) (λf=>?_) (.inl<|.inr ⟨{cls:=.type "list",data:=.seq Sp.toArray},aJ rfl⟩) (λf L b=>?_) (λf b=>?_) λ_=>z
  ·by_cases h:f=g
   ·exact .inr ⟨_,_,aJ h⟩
   ·exact .inl (aM h)
  ·by_cases h:f=g
   ·have i:=(aJ h).symm.trans b;cases i;subst h;exact⟨k,by rw[a9];exact D,Sp,_,E,k⟩
   ·have i:=(aM h).symm.trans b;cases i
  ·by_cases h:f=g
   ·exact h
   ·exact absurd (aM h) b
def LO{k:PySem.W.OpenLaw}{p:Nat}{r:bA}{t:List aD}{u:(aD->Option ae)->a5->Prop}{a:bk->a5->Prop}{s:DefRec}{So:sW->Φ}{F:bk->jF}{TC:bk->cK}(w:k.most=Z p)(y:p<=sizeLine)(z:s.params.defaults=[])(A:eE o oa)(B:∀(l:bk) (e:a5),a l e->(So l.params).In e)(N:∀(l:bk) (az:aD->Option ae) (ej:af) (e:a5),(So l.params).In e->e.Ns dJ az->az s.name=Z (.ref ej)->
   ∃fd:gp,(∀(j:ao) (L:ae),lT j fd ⟨[L],[]⟩ [(d,L)])/\
    ∀SA:a5,(So l.params).In SA->SA.Ns dJ az->hC k.prog l (So l.params) az SA (F l) o ej fd [d] (TC l))(C:∀(l:bk) (m:ax) (g:af) (Q:List Int),Q.length<=p->tJ m->dk (So l.params) m g (Q.map aj.int)->TC l [.ref g] m (λv S=>v=.av X) λ_ S S=>False)(D:∀(l:bk) (m:ax) (j:ao) (c:ae) (Sr:ao),F l [] m j (λ_ S S=>False) c Sr->False):
  PySem.W.WalkO r t u a k.row.toRowW s [] (λx Sp=>PySem.call x Sp):=by
 refine FP.IT w z λl eZ E az am ej n S4 an i g Sp Q Ss G ap hd as H I J h O=>?_;have q:=B l _ G;let⟨@fd,P,R⟩:=N l az ej _ q Ss.T.g H;exact Ng q Ss.T.g Ss.T.b Ss.T.builtins Ss.T.nolimit O I J (ew h y) A R P (λm U al=>C l m g Q h U al) λm c Sr=>D l m E c Sr
def g8(j:b9):Arguments:=(match j with
 |.FunctionDef _ g _ _ _ _ _ _ _ _=>g
 |_=>{posonlyargs:=[],args:=[],vararg:=Y,kwonlyargs:=[],kw_defaults:=[],kwarg:=Y,defaults:=[]})
def gb(j:b9):List b9:=(match j with
 |.FunctionDef _ _ f _ _ _ _ _ _ _=>f
 |_=>[])
def dN(j:b9):gE:=(match j with
 |.FunctionDef _ _ _ _ _ _ E _ _ _=>E
 |_=>{kind:=.function,names:=[],isGenerator:=ar,isCoroutine:=ar})
abbrev hE:jF:=λ_ _ _ _ _ _=>False
abbrev Qi:gk:=λ_ _ _=>False
def G3{b:aL}:tF hE b Qi:=λ_ W W W W W W e=>e.elim
structure fU(So:Φ)(d Tu:aD)(z:b9)(x:af)(fd:gp):Prop where
 ex:∃(t:ae) (H:Option af) (b7 i S4:ae) (B:Option af) (Q b3:ae) (S:Array (Option ae)),
  fd=Ξ d Tu (g8 z) (gb z) (dN z) .none b7 i S4 B Q b3/\So.lookup x=Z ⟨t,H,.func fd,S⟩/\Δ So Q Tu=X
 ea:Θ So (.ref x)=X
section
variable{R:bA}{l:bk}{So:Φ}{az:aD->Option ae}{SA:a5}
def fU.ok{SY:List aD}{TC:cK}(N:fU So d Tu z x fd)(SM:n9 SY SJ (dN z))(len:∀Sp m D Sv,TC Sp m D Sv->Sp.length=SJ.length)(a:∀(Q:ae) (O:bw) (Tc:List eL) (j:ao) (m:ax) (Sp:List aj) (D:cI) (Sv:gk),eE o (O.deeper<|jv Tu (dN z) j.heap.objs.size x Q)->TC Sp m D Sv->
   ∃I,hV (lK hE R l So az SA SY Tu (dN z) x Q O Tc j m Sv).mX (gb z) I/\I {bo:=λ_ T=>D .aV T,es:=D} (start SY Sp) m):hC R l So az SA hE (o+1) x fd SJ TC:=by
 let⟨t,H,b7,i,S4,B,Q,b3,@S,rfl,lk,b⟩:=N.ex;refine Ij lk b SM len λO Tc j m Sp D Sv c f=>?_;let⟨@I,e,r⟩:=a Q O Tc j m Sp D Sv c f;exact⟨I,e.mX,r⟩
def fU.binds(N:fU So d Tu z x fd)(e:∀(b7 i S4:ae) (B:Option af) (Q b3:ae) (SO:List ae),SO.length=SJ.length->iY (Ξ d Tu (g8 z) (gb z) (dN z) .none b7 i S4 B Q b3) ⟨SO,[]⟩=pure (SJ.zip SO)):hG So fd SJ []:=by
 let⟨t,H,b7,i,S4,B,Q,b3,@S,rfl,lk,a⟩:=N.ex;exact .all (e b7 i S4 B Q b3)
def Hn{t:ae}{H B:Option af}{S:Array (Option ae)}{b7 i S4 Q b3:ae}(k:So.lookup x=Z ⟨t,H,.func<|Ξ d Tu (g8 z) (gb z) (dN z) .none b7 i S4 B Q b3,S⟩)(h:Δ So Q Tu=X)(o:Θ So (.ref x)=X):fU So d Tu z x (Ξ d Tu (g8 z) (gb z) (dN z) .none b7 i S4 B Q b3):=⟨⟨t,H,b7,i,S4,B,Q,b3,S,rfl,k,h⟩,o⟩
end
section
variable{b:aL}
def c8(a:Nat){d:aD}{SK:Pos}(c:b.N[a]?=Z d:=by rfl)(e:tq b.env.scope d:=by first|exact Or.inl rfl|exact Or.inr (Or.inl rfl)|exact Or.inr (Or.inr rfl))(hd:(d==("__debug__" : aD))=ar:=by decide)(f:(d==("__classdict__" : aD))=ar:=by decide):bN b (.Name d SK) (ly a):=CO c e hd f
end
def cZ(m T:ax):Prop:=(∀f n,m f=Z n->T f=Z n)
def cZ.refl(m:ax):cZ m m:=λ_ W e=>e
end L2
namespace L2
section
variable{b:aL}
def Hs:eA b (.builtin "len") (λw m D=>∃g SF,w=[aj.ref g]/\m g=Z (.dE SF)/\D (.int SF.length) m):=by
 intro G j A m w SO D E u e;let⟨g,@SF,rfl,a,r⟩:=e;let⟨@L,rfl,c⟩:=ir u;cases c;exact MY E (.inl a) λI Sr d=>⟨.int SF.length,m,d,⟨I,rfl⟩,r⟩
end
end L2
namespace L2
open Spec PyProof.Rows
variable{D:Option ae->ao->Prop}{a Tg J:Nat}{e t:a5}{SH:List ae}{s aO:af}{fg:da}{S1 Tr TF:bu}{F:List (aD×af)}{bF:List af}{m:ax}{A:a3}{G:List (af×bj)}{SV:List Nat}{own:List aD}{Sw:eL}{SK:Pos}{SQ:gE}{R:List bu}{j:ao}{O:bw}
def Hk{Sz:bA}{l:bk}{Su:rd->ao->Prop}{b:bu}{it f:ae}(E:Nat->ao->Prop)(o:∀p j,E p j->wpAny (aS Sz l) O (hK it) (λu a=>match u with
   |none=>Su (.ok .next) a
   |some v=>wpAny (aS Sz l) O (qN b it v) (λ_ a=>wpAny (aS Sz l) O (ig b Sw v) (λ_ i=>
     wpAny (aS Sz l) O (forIn R X λh u=>if u=X then do let ok <-om h Sw (ck h Sw);pure (ForInStep.yield ok) else pure (ForInStep.yield u)) (λok g=>
      if ok=X then wpAny (aS Sz l) O (ck TF Sw) (λd k=>
       wpAny (aS Sz l) O (call (.builtin "list.append") [f,d]) (λ_ m=>∃H,H<p/\E H m) (λ_ W=>False) k) (λ_ W=>False) g
      else ∃H,H<p/\E H g) (λ_ W=>False) i) (λ_ W=>False) a) (λ_ W=>False) a) (λ_ W=>False) j)(p:Nat)(e:E p j):
  codeAny (aS Sz l) O (.compLoop (.ListComp TF [⟨b,Tr,R,0⟩] SQ SK) 0 it f Sw) Su j:=by
 refine codeAny_loop rfl E (λp j d2=>?_) p e;show wpAny _ O ((compTurn (.ListComp TF [⟨b,Tr,R,0⟩] SQ SK) 0 it f Sw).onRaise (λd=>do noteFrame d Sw;theTreesLotGoes d)) _ _ j;refine wpAny_noted ?_;rw[compTurn_list];refine aw (t4<|aw<|hl (o p j d2) (λu a c=>?_) λ_ W Sq=>Sq.elim);cases u with
 |none=>exact aW c
 |some v=>
  refine aw (hl c (λ_ a c=>?_) λ_ W Sq=>Sq.elim);refine aw (hl c (λ_ i q=>aw<|hl q (λok g n=>?_) λ_ W Sq=>Sq.elim) λ_ W Sq=>Sq.elim);cases ok with
  |false=>exact aW ⟨rfl,n⟩
  |true=>
   exact aw (aw<|hl n (λd k r=>aw<|hl r (λ_ m s=>aW<|aW ⟨rfl,s⟩) λ_ W Sq=>Sq.elim) λ_ W Sq=>Sq.elim)
def ko(Sw:eL)(k:List (aD×c6)):List (aD×af):=(k.foldl (λF y=>if y.2==.free then (y.1,(Sw.cells.lookup y.1).getD 0)::F else F) [])
theorem xM{Sw:eL}:∀(k:List (aD×c6)) (F:List (aD×af)),(∀y∈k,y.2=.free->∃h,Sw.cells.lookup y.1=Z h)->
  (forIn k F λ(y:aD×c6) F=>if y.2==.free then (do let h <-tb Sw y.1;pure (ForInStep.yield ((y.1,h)::F))) else pure (ForInStep.yield F):dR _)=
   pure (k.foldl (λF y=>if y.2==.free then (y.1,(Sw.cells.lookup y.1).getD 0)::F else F) F)
 |[],F,_=>rfl
 |y::u,F,e=>by
  rw[sP,jj];by_cases a:y.2=.free
  ·let⟨@h,f⟩:=e y kF a;have c:(y.2==c6.free)=X:=by simp[a]
   rw[aJ c,aJ c];have g:tb Sw y.1=pure h:=by unfold tb;rw[f]
   rw[g,f];show (forIn u ((y.1,h)::F) _:dR _)=_;exact xM u _ λb d=>e b (kB _ d)
  ·have c:¬ (y.2==c6.free)=X:=by simp[a]
   rw[aM c,aM c];show (forIn u F _:dR _)=_;exact xM u _ λb d=>e b (kB _ d)
def Q6(e:∀y∈SQ.names,y.2=.free->∃h,Sw.cells.lookup y.1=Z h):closureFor SQ Sw=pure (ko Sw SQ.names):=by
 have:=xM (Sw:=Sw) SQ.names [] e;unfold closureFor;dsimp only;have c:(forIn SQ.names ([]:List (aD×af))<|λ(d:aD×c6) (u:List (aD×af))=>(if d.2==.free then (do let h <-tb Sw d.1;pure (ForInStep.yield ((d.1,h)::u))) else pure (ForInStep.yield u):dR (ForInStep<|List<|aD×af)))=pure (ko Sw SQ.names):=this;rw[c];rfl
theorem G_{Sw:eL}:∀(k:List (aD×c6)) (F:List (aD×af)) (d:aD) (h:af),
  (k.foldl (λF y=>if y.2==.free then (y.1,(Sw.cells.lookup y.1).getD 0)::F else F) F).lookup d=Z h->
  (h=(Sw.cells.lookup d).getD 0/\(d,c6.free)∈k)\/F.lookup d=Z h
 |[],F,d,h,e=>.inr e
 |y::u,F,d,h,e=>by
  rw[jj]at e;rcases G_ u _ d h e with ⟨c,H⟩|e
  ·exact .inl ⟨c,kB _ H⟩
  ·by_cases a:y.2=.free
   ·rw[aJ (by simp[a])]at e;rw[gx]at e;by_cases b:d=y.1
    ·subst b;rw[ka]at e;refine .inl ⟨(Option.some.inj e).symm,?_⟩;rw[<-a];exact kF
    ·have:(d==y.1)=ar:=by simpa using b
     rw[this]at e;exact .inr e
   ·rw[aM (by simp[a])]at e;exact .inr e
theorem zC{Sw:eL}:∀(k:List (aD×c6)) (F:List (aD×af)) (d:aD),(d,c6.free)∈k\/(∃h,F.lookup d=Z h)->
  ∃h,(k.foldl (λF y=>if y.2==.free then (y.1,(Sw.cells.lookup y.1).getD 0)::F else F) F).lookup d=Z h
 |[],F,d,e=>by
  rcases e with e|e
  ·cases e
  ·exact e
 |y::u,F,d,e=>by
  rw[jj];apply zC u _ d;rcases e with e|⟨h,e⟩
  ·rcases cq.mp e with c|e
   ·right;subst c;rw[aJ (by rfl),gx,ka];exact⟨_,rfl⟩
   ·exact .inl e
  ·right;by_cases a:(y.2==c6.free)=X
   ·rw[aJ a,gx];cases d==y.1
    ·exact⟨h,e⟩
    ·exact⟨_,rfl⟩
   ·rw[aM a];exact⟨h,e⟩
structure jG where
 aO:af
 s:ao
 H:ax
 bF:List af
 cs:List (aD×af)
variable{TA:jG->b5}{TL:jG->ek}{M:jG->gg}
def aL.fL(b:aL)(c:List aD)(SQ:gE)(a:jG): aL :=(
  {prog:=b.prog,w:=b.w,K:=b.K,az:=b.az,base:=b.base,A:=b.A,N:=c,eZ:=a.s,o4:=a.H,env:=s9 SQ (a.cs ++ ko b.env SQ.names) a.aO b.env,outer:=b.stack,stack:=b.stack,
    ex:=a.bF,fn:=λd => SQ.names.lookup d==Z .cell,calm:=b.calm,kQ:=[],cU:=λ_ W => False})
structure vu(J:Nat)(k:List (aD×c6))(F:List (aD×af))(e:a5):Prop where
 jQ:∀d h,F.lookup d=Z h->J<=h/\e.IsCell h Y/\(d,c6.cell)∈k
 inj:∀d y h,F.lookup d=Z h->F.lookup y=Z h->d=y
def L3{aA:hp}{Sv:ae->ao->Prop}{w:af}{p:List (aD×af)}{Tu:aD}{D:eL->ao->Prop}(e:∀Sq F,(∀f n,j.heap.get? f=Z n->Sq.get? f=Z n)->Sq.Ns j.heap.objs.size (λ_=>Y)->vu (j.heap.objs.size+1) SQ.names F Sq->(∀d,(d,c6.cell)∈SQ.names->∃h,F.lookup d=Z h)->
   D (newEnv SQ j.heap.objs.size w (F++p) Tu Y .none (Z Sw) t6) {j with heap:=Sq}):
  wpAny aA O (E1 SQ w p [] Tu Y .none<|Z Sw) D Sv j:=by
 unfold E1;refine aw (wpAny_alloc ?_);have J:(j.heap.push {cls:=.type (if (Z Sw).isSome=X then "dict" else "frame"),data:=.dict #[]}).Ns j.heap.objs.size λ_=>Y:=⟨_,#[],_,dx _ rfl,rfl,by intro a U;simp at U,λ_=>rfl⟩;refine aw (nz _ (λdh cells Sr=>∃done F Sq,done++dh=SQ.names/\cells=F++p/\Sr={j with heap:=Sq}/\j.heap.objs.size+1<=Sq.objs.size/\(∀f n,j.heap.get? f=Z n->Sq.get? f=Z n)/\Sq.Ns j.heap.objs.size (λ_=>Y)/\vu (j.heap.objs.size+1) SQ.names F Sq/\∀d,(d,c6.cell)∈done->∃h,F.lookup d=Z h) _ ?_ ?_ _ _ ⟨[],[],_,rfl,rfl,rfl,by rw[lh];exact bl _,λf n c=>cw _ c,J,⟨(λd h c=>by simp at c),(λd y h c=>by simp at c)⟩,(λd b=>nomatch b)⟩)
 ·rintro⟨B,l⟩ dh cells Sr ⟨done,F,Sq,o,rfl,rfl,kf,ext,Q,i,r⟩;by_cases s:l=.cell
  ·subst s;show wpAny aA O (alloc {cls:=.type "cell",data:=.cell Y} >>= λg=>pure<|ForInStep.yield ((B,g)::(F++p))) _ _ _;refine aw (wpAny_alloc<|aW ?_);have up:∀f n,Sq.get? f=Z n->(Sq.push {cls:=.type "cell",data:=.cell Y}).get? f=Z n:=λf n c=>cw _ c;have x:∀h,(∃v,Sq.IsCell h v)->h≠Sq.objs.size:=λh ⟨v,n,c,_⟩=>dU (cn c);refine⟨done++[(B,.cell)],(B,Sq.objs.size)::F,_,by rw[bC];exact o,rfl,rfl,by rw[lh];exact AE kf,λf n c=>up f n<|ext f n c,Q.push _,⟨λd h c=>?_,λd y h Th m=>?_⟩,λd b=>?_⟩
   ·rw[gx]at c;by_cases b:d=B
    ·subst b;rw[ka]at c;cases c;exact⟨kf,⟨_,dx _ rfl,rfl⟩,by rw[<-o];exact dQ _ (.head _)⟩
    ·rw[show (d==B)=ar by simpa using b]at c;let⟨z,⟨n,A,C⟩,E⟩:=i.jQ d h c;exact⟨z,⟨n,up h n A,C⟩,E⟩
   ·rw[gx]at Th m;by_cases b:d=B
    ·by_cases q:y=B
     ·rw[b,q]
     ·rw[b,ka]at Th;rw[show (y==B)=ar by simpa using q]at m;cases Th;exact absurd rfl (x _ ⟨_,(i.jQ y _ m).2.1⟩)
    ·rw[show (d==B)=ar by simpa using b]at Th;by_cases q:y=B
     ·rw[q,ka]at m;cases m;exact absurd rfl (x _ ⟨_,(i.jQ d _ Th).2.1⟩)
     ·rw[show (y==B)=ar by simpa using q]at m;exact i.inj d y h Th m
   ·rw[gx];by_cases t:d=B
    ·rw[t,ka];exact⟨_,rfl⟩
    ·rw[show (d==B)=ar by simpa using t];refine r d ((dt.mp b).resolve_right λu=>?_);exact t (Prod.mk.inj<|cA.mp u).1
  ·have c:(l==c6.cell)=ar:=by simpa using s
   show wpAny aA O (if (l==c6.cell)=X then _ else pure (ForInStep.yield<|F++p)) _ _ _;rw[aM (by rw[c];exact dA)];refine aW ⟨done++[(B,l)],F,Sq,by rw[bC];exact o,rfl,rfl,kf,ext,Q,i,λd b=>r d<|(dt.mp b).resolve_right λu=>?_⟩;exact s (Prod.mk.inj<|cA.mp u).2.symm
 ·rintro cells Sr ⟨done,F,Sq,o,rfl,rfl,kf,ext,Q,i,r⟩;rw[cB]at o;subst o;exact aw (aW<|aW<|e Sq F ext Q i r)
theorem mem_of_lookup:∀{k:List (aD×c6)}{d:aD}{o:c6},k.lookup d=Z o->(d,o)∈k
 |[],_,_,e=>by simp at e
 | (p,b)::u,d,o,e=>by
  rw[gx]at e;by_cases a:d=p
  ·subst a;rw[ka]at e;cases e;exact kF
  ·rw[show (d==p)=ar by simpa using a]at e;exact kB _ (mem_of_lookup e)
theorem xk{Sw:eL}:∀{k:List (aD×c6)}{d:aD}{o:c6},
  (k.map λ(p,o)=>if (o==c6.free&&Sw.scope.kind==.function&&Sw.kindOf p==Z .cell) then (p,c6.cell) else (p,o)).lookup d=Z o->
  (o=.cell\/o=.free)->(d,c6.free)∈k\/k.lookup d=Z .cell
 |[],d,o,e,_=>by simp at e
 | (p,f)::u,d,o,e,a=>by
  rw[cE]at e;dsimp only at e;by_cases h:d=p
  ·subst h;by_cases b:(f==c6.free&&Sw.scope.kind==.function&&Sw.kindOf d==Z .cell)=X
   ·have:f=c6.free:=by
     simp only[cX]at b;exact by simpa using b.1.1
    subst this;exact .inl kF
   ·simp only[b]at e;have c:f=o:=by simpa [gx] using e
    subst c;rcases a with a|a
    ·exact .inr (by rw[gx,ka,a])
    ·rw[a];exact .inl kF
  ·have g:(d==p)=ar:=by simpa using h
   have Sq:(u.map λ(p,o)=>if (o==c6.free&&Sw.scope.kind==.function&&Sw.kindOf p==Z .cell) then (p,c6.cell) else (p,o)).lookup d=Z o:=by
    by_cases b:(f==c6.free&&Sw.scope.kind==.function&&Sw.kindOf p==Z .cell)=X
    ·rw[aJ b,gx,g]at e;exact e
    ·rw[aM b,gx,g]at e;exact e
   rcases xk Sq a with z|z
   ·exact .inl (kB _ z)
   ·exact .inr (by rw[gx,g];exact z)
section
variable{b:aL}
structure hS(b:aL)(SQ:gE)(own:List aD)(SV:List Nat):Prop where
 kind:SQ.kind=.function
 Od:∀y∈SQ.names,y.2=.cell->SQ.names.lookup y.1=Z .cell
 free:∀y∈SQ.names,y.2=.free->b.env.scope.names.lookup y.1=Z .cell
 loc:∀y∈SQ.names,y.2=.local->SQ.names.lookup y.1=Z .local
 NI:∀a∈SV,∃d,b.N[a]?=Z d/\(d,c6.free)∈SQ.names/\SQ.names.lookup d=Z .free
def fT(b:aL)(own:List aD)(SV:List Nat):List aD:=(own++SV.map λa=>b.N.getD a "")
def jD(own:List aD)(SV:List Nat)(A:a3):a3:=(own.map (λ_=>Y)++SV.map λa=>A.getD a Y)
def hS.cells(SM:hS b SQ own SV)(ok:b.Ok):∀y∈SQ.names,y.2=.free->∃h,b.env.cells.lookup y.1=Z h:=
 λy a c=>ok.has y.1 (.inl<|SM.free y a c)
def hS.sub(SM:hS b SQ own SV)(ok:b.Ok){d:aD}{h:af}(e:(ko b.env SQ.names).lookup d=Z h):b.env.cells.lookup d=Z h/\(d,c6.free)∈SQ.names:=by
 rcases G_ SQ.names [] d h e with ⟨c,H⟩|e
 ·let⟨@f,a⟩:=SM.cells ok (d,.free) H rfl;rw[show (List.lookup d b.env.cells)=Z f from a]at c;refine⟨?_,H⟩;rw[c];exact a
 ·simp at e
def hS.two(SM:hS b SQ own SV)(ok:b.Ok){F:List (aD×af)}{d:aD}{h:af}(e:(F++ko b.env SQ.names).lookup d=Z h):F.lookup d=Z h\/(F.lookup d=Y/\b.env.cells.lookup d=Z h):=by
 rw[vG]at e;cases r:F.lookup d with
 |some s=>rw[r]at e;exact .inl e
 |none=>rw[r]at e;exact .inr ⟨rfl,(SM.sub ok e).1⟩
def aH.wC(E:aH b G A m j){d:aD}{h:af}(e:b.env.cells.lookup d=Z h):h<j.heap.objs.size:=by
 let⟨v,n,a,W⟩:=E.cell d h e;exact cn a
theorem CB(SM:hS b SQ own SV)(E:aH b G A m j)(v:j.heap.objs.size<=aO)(q:∀f∈bF,jV b G m f)(w:∀f∈bF,f<j.heap.objs.size)(i:vu J SQ.names F t)(u:j.heap.objs.size<=J)(x:∀d,(d,c6.cell)∈SQ.names->∃h,F.lookup d=Z h):(b.fL (fT b own SV) SQ ⟨aO,j,m,bF,F⟩).Ok where
 mod:=E.ok.mod
 kind:=SM.kind
 glob:=E.ok.glob
 blt:=E.ok.blt
 above:=v
 inj:=λd y h t C=>by
  rcases SM.two E.ok t with l|⟨_,l⟩<;>rcases SM.two E.ok C with o|⟨_,o⟩
  ·exact i.inj d y h l o
  ·exact absurd (eX (E.wC o)<|ew u (i.jQ d h l).1) (jx _)
  ·exact absurd (eX (E.wC l)<|ew u (i.jQ y h o).1) (jx _)
  ·exact E.ok.inj d y h l o
 has:=λd g=>by
  have H:(d,c6.free)∈SQ.names\/SQ.names.lookup d=Z .cell:=by
   rcases g with g|g
   ·exact xk g (.inl rfl)
   ·exact xk g (.inr rfl)
  show ∃h,(F++ko b.env SQ.names).lookup d=Z h;rw[vG];cases r:F.lookup d with
  |some s=>exact⟨s,rfl⟩
  |none=>
   rcases H with H|H
   ·exact zC SQ.names [] d (.inl H)
   ·let⟨h,p⟩:=x d (mem_of_lookup H);rw[r]at p;cases p
 pl:=λd h e B=>by
  have g:SQ.names.lookup d=Z .cell:=eq_of_beq e;let⟨D,p⟩:=x d (mem_of_lookup g);rcases SM.two E.ok B with z|⟨z,_⟩
  ·exact ew u (i.jQ d h z).1
  ·rw[z]at p;cases p
 hd:=E.ok.hd
 frames:=E.ok.frames
 r4:=.inl rfl
 yP:=λf a=>⟨dU<|eX (w f a) v,λd h e=>by
  rcases SM.two E.ok e with z|⟨_,z⟩
  ·exact lH (eX (w f a)<|ew u (i.jQ d h z).1)
  ·exact (q f a).2.2.2.2.1 d h z⟩
 bs:=E.bs
 kY:=ew E.ok.kY E.kf
 oQ:=λf n c a=>by
  rcases (q f a).2.2.2.1 with z|z
  ·exact E.ok.oQ f n c z
  ·exact absurd (eX (cn c)<|ew E.ok.kY z) (jx _)
 pX:=λf a z=>by
  rcases cq.mp (E.vV f z) with c|c
  ·exact (q f a).2.1 c
  ·exact (q f a).2.2.1 c
 iO:=E.stack
 ny:=E.DU
theorem M9{Tb:Nat}{H:aD->Option ae}(SM:hS b SQ own SV)(E:aH b G A m j)(Q:j.heap.objs.size<=aO)(as:∀f∈bF,jV b G m f)(a1:∀f∈bF,f<j.heap.objs.size)(B:∀f n,j.heap.get? f=Z n->t.get? f=Z n)(a2:t.Ns aO H)(C:vu J SQ.names F t)(D:j.heap.objs.size<=J)(I:∀d,(d,c6.cell)∈SQ.names->∃h,F.lookup d=Z h):
  aH (b.fL (fT b own SV) SQ ⟨aO,j,m,bF,F⟩) [] (jD own SV A) m {j with heap:=t,toks:=Tb} where
 ok:=CB SM E Q as a1 C D I
 os:=rfl
 bare:=E.bare
 base:=fa.kept B
 loc:=by
  let⟨@ca,D,bd⟩:=E.loc;refine⟨H,a2,λi d v w c x=>?_⟩;have w:(own++SV.map λa=>b.N.getD a "")[i]?=Z d:=w;have c:(own.map (λ_=>(Y:Option aj))++SV.map λa=>A.getD a Y)[i]?=Z (Z v):=c;by_cases be:i<own.length
  ·rw[jR (by rw[a9];exact be),gq]at c;cases r:own[i]? with
   |none=>rw[r]at c;cases c
   |some l=>rw[r]at c;cases c
  ·rw[mL ⋯,gq]at w;rw[mL (by rw[a9];lia),gq,a9]at c;cases r:SV[i-own.length]? with
   |none=>rw[r]at w;cases w
   |some a=>
    rw[r]at w c;have w:b.N.getD a "" = d:=Option.some.inj w;have c:A.getD a Y=Z v:=Option.some.inj c;let⟨@g,R,S,T⟩:=SM.NI a (j1 r);have Th:g=d:=by
     rw[<-w,cN,R];rfl
    subst Th;have I:A[a]?=Z (Z v):=by
     rw[cN]at c;cases U:A[a]? with
     |none=>rw[U]at c;cases c
     |some l=>rw[U]at c;rw[show l=Z v from c]
    have al:=SM.free (g,.free) S rfl;let⟨@L,u,lk⟩:=bd a g v R I (.inr<|.inl al);refine⟨L,u,.inr ⟨?_,?_⟩⟩
    ·rcases x with x|x|x
     ·
      exfalso;have:∀{k:List (aD×c6)},k.lookup g=Z .free->(k.map λ(p,o)=>if (o==c6.free&&b.env.scope.kind==.function&&b.env.kindOf p==Z .cell) then (p,c6.cell) else (p,o)).lookup g≠Z .local:=by
       intro k;induction k with
       |nil=>intro e;simp at e
       |cons y u am=>
        let⟨p,o⟩:=y;intro e;rw[cE];dsimp only;by_cases an:g=p
        ·subst an;have TO:o=.free:=by simpa [gx] using e
         subst TO;by_cases z:(c6.free==c6.free&&b.env.scope.kind==ScopeKind.function&&b.env.kindOf g==Z c6.cell)=X
         ·rw[aJ z];simp[gx]
         ·rw[aM z];simp[gx]
        ·have M:(g==p)=ar:=by simpa using an
         rw[gx,M]at e;by_cases z:(o==c6.free&&b.env.scope.kind==ScopeKind.function&&b.env.kindOf p==Z c6.cell)=X
         ·rw[aJ z,gx,M];exact am e
         ·rw[aM z,gx,M];exact am e
      exact this T x
     ·exact .inl x
     ·exact .inr x
    ·rcases lk with ⟨bi,_⟩|⟨_,h,bm,bn⟩
     ·exact absurd (bi.symm.trans al) ↥0
     ·let⟨@cd,ap⟩:=zC (Sw:=b.env) SQ.names [] g (.inl S);have:=(SM.sub E.ok ap).1;rw[bm]at this;cases this;let⟨@n,O,hd⟩:=bn;have bs:F.lookup g=Y:=by
       cases r:F.lookup g with
       |none=>rfl
       |some s=>
        have:=SM.Od _ (C.jQ g s r).2.2 rfl;rw[T]at this;cases this
      exact⟨h,by show (F++ko b.env SQ.names).lookup g=Z h;rw[vG,bs];exact ap,n,B _ _ O,hd⟩
 cell:=λd h e=>by
  rcases SM.two E.ok e with l|⟨_,l⟩
  ·exact⟨_,(C.jQ d h l).2.1⟩
  ·let⟨v,@n,O,hd⟩:=E.cell d h l;exact⟨v,n,B _ _ O,hd⟩
 free:=E.aY.fresh Q
 jt:=λd h e=>by
  rcases SM.two E.ok e with l|⟨_,l⟩
  ·exact E.aY.fresh (ew D (C.jQ d h l).1)
  ·exact E.jt d h l
 pin:=λq bv=>nomatch bv
 aY:=E.aY.kept B
 len:=by simp[jD,fT,aL.fL]
def F8(b:aL)(R:List bu)(I:ek)(G:List (af×bj)):Prop:=(
 ∀(j:ao) (A:a3) (m:ax) (D:Bool->ax->Prop),aH b G A m j->I A m D->
  wpAny (aS b.prog b.w) b.A (forIn R X λh u=>if u=X then do let ok <-om h b.env (ck h b.env);pure (ForInStep.yield ok) else pure (ForInStep.yield u)) (t2 b G A D) b.cU j)
def rB(b:aL)(R:List bu)(I:ek):Prop:=(∀G,F8 b R I G)
def ON:ek:=(λ_ m D=>D X m)
def J7:rB b [] ON:=λG j A m D E e=>wpAny_tests_nil ⟨m,E,e⟩
def Li{h:bu}{I:ek}(e:ho b h I):rB b [h] I:=λG j A m D E a=>wpAny_tests_one (e G j A m D E a)
def Lf(own:List aD)(SV:List Nat)(M:gg)(TL:ek)(TA:b5)(A:a3)(SY:List aj->ax->Prop)(SI:List aj)(d:aj)(T:ax):Prop:=(
 M d (jD own SV A) T λa SP=>(∀(i:Nat) (v:aj),(jD own SV A)[i]?=Z (Z v)->a[i]?=Z (Z v))/\TL a SP λf b=>if f=X then TA a b λv c=>SI.length<sizeLine/\SY (SI++[v]) c else SY SI b)
def OH(Tw:e9)(own:List aD)(SV:List Nat)(M:gg)(TL:ek)(TA:b5)(A:a3)(SD:ax)(D:cI):Prop:=(
 ∃W:Nat->Nat->List aj->ax->Prop,(∃H,W 0 H [] SD)/\∀a H SI m,W a H SI m->(Tw.stop a m/\∀B,m B=Y->D (.ref B) (upd m B<|.lst SI))\/
  (Tw.go a m/\∃SY:List aj->ax->Prop,(∀b T,SY b T->∃c,c<H/\W (a+1) c b T)/\∀d T,Tw.qa a m d T->Lf own SV M TL TA A SY SI d T))
def vC(own:List aD)(SV:List Nat)(fg:da)(M:jG->gg)(TL:jG->ek)(TA:jG->b5):b5:=(λA m D=>fg A m λTw SD=>∀a:jG,OH Tw own SV (M a) (TL a) (TA a) A SD D)
def uD(E:gE)(SY:List aD)(SQ:gE)(SV:List Nat):Bool:=(
 SQ.kind==.function&&SQ.names.all (λy=>y.2 != .cell || SQ.names.lookup y.1==Z .cell)&&SQ.names.all (λy=>y.2 != .free || E.names.lookup y.1==Z .cell)&&SQ.names.all (λy=>y.2 != .local || SQ.names.lookup y.1==Z .local) &&
  SV.all (λa=>match SY[a]? with|some d=>SQ.names.lookup d==Z .free|none=>ar))
def kn{b:aL}(E:gE)(SY:List aD)(e:uD E SY SQ SV=X)(c:b.env.scope=E:=by rfl)(j:b.N=SY:=by rfl):hS b SQ own SV:=by
 unfold uD at e;simp only[cX,kz,bne_iff_ne,ne_eq,EX,beq_iff_eq]at e;let@⟨@⟨@⟨@⟨t,C⟩,l⟩,m⟩,n⟩:=e;refine⟨t,λy f g=>(C y f).resolve_left λh=>h g,λy f g=>?_,λy f g=>?_,λa U=>?_⟩
 ·rw[c];exact (l y f).resolve_left λh=>h g
 ·exact (m y f).resolve_left λh=>h g
 ·have:=n a U;rw[j];cases r:SY[a]? with
  |none=>rw[r]at this;cases this
  |some d=>
   rw[r]at this;have i:SQ.names.lookup d=Z .free:=by simpa using this
   exact⟨d,rfl,mem_of_lookup i,i⟩
def Cc{Tj:Pos}{use:Option (ae->dR Unit)}{ga:ae->ao->Prop}{lm:cI}(pm:b.calm=X)(SM:hS b SQ own SV)(U:k4 b S1 Tr fg)(po:∀a1,jw (b.fL (fT b own SV) SQ a1) S1<|M a1)(pp:∀a1,rB (b.fL (fT b own SV) SQ a1) R<|TL a1)(pr:∀a1,bN (b.fL (fT b own SV) SQ a1) TF<|TA a1)(pt:∀d,ma Tr b.env d=pure d)(E:aH b G A m j)(e:vC own SV fg M TL TA A m lm)(pu:∀(B aO:af) (ge:ax) (J:ao) (H:aD->Option ae),aH b G A ge J->J.heap.Ns aO H->ge aO=Y->b.env.locals≠aO->(∀d h,b.env.cells.lookup d=Z h->h≠aO)->b.eZ.heap.objs.size<=aO->(∀q∈b.kQ++G,q.1≠aO)->lm (.ref B) ge->compPost (aS b.prog b.w) b.A b.cU use ga (.ref B) aO (.ok .next) J):
  wpAny (aS b.prog b.w) b.A (yx (.ListComp TF [⟨S1,Tr,R,0⟩] SQ SK) SQ b.env Tj (qQ []) ar (ck Tr b.env) use) ga b.cU j:=by
 refine wpAny_comprehension_free (use:=use) rfl pt (Q6<|SM.cells E.ok) SM.kind SM.loc (bX (U G j A m _ E e) λv wr t=>bX t λws D C=>?_);let⟨it,bF,i,Tw,@SP,c,an,S,gl,a2,py⟩:=C;subst c;have cl:∀f∈bF,f<D.heap.objs.size:=λf s=>by
  let⟨@n,c,P⟩:=S.obj _ _ gl f s;exact cn c
 refine ib (L3 λgt F ext ds bm ln=>?_);dsimp only at ds ext bm ⊢;generalize g1:D.heap.push {cls:=.type "list",dict:=Y,data:=.seq ([]:List ae).toArray}=dL at ds ext bm ⊢;have eq:dL.objs.size=D.heap.objs.size+1:=by rw[<-g1,lh]
 have bn:D.heap.objs.size≠dL.objs.size:=by rw[eq];exact dU (pY _)
 have ev:D.heap.objs.size<=dL.objs.size:=by rw[eq];exact Aq _
 have g2:∀f n,D.heap.get? f=Z n->gt.get? f=Z n:=λf n c=>ext f n (g1 ▸ cw _ c);have ls:gt.get? D.heap.objs.size=Z {cls:=.type "list",data:=.seq ([]:List ae).toArray 0}:=ext _ _ (g1 ▸ dx _ rfl);generalize wv:dL.objs.size=aO at ds bm eq bn ev ⊢;have fd:D.heap.objs.size<=aO+1:=AE ev;generalize ap:D.heap.objs.size=B at ls eq bn ev ⊢;have bs:D.heap.objs.size<=aO:=by rw[ap];exact ev
 let⟨@W,⟨@rc,re⟩,turn⟩:=py ⟨aO,D,SP,bF,F⟩;have lv:=λ(Tb:Nat)=>M9 (Tb:=Tb) SM an bs a2 cl g2 ds bm fd ln;have lw:=po ⟨aO,D,SP,bF,F⟩;have mb:=pp ⟨aO,D,SP,bF,F⟩;have mo:=pr ⟨aO,D,SP,bF,F⟩;have g3:=CB SM an bs a2 cl bm fd ln;generalize N:b.fL (fT b own SV) SQ ⟨aO,D,SP,bF,F⟩=x at lv lw mb mo g3;have bv:x.prog=b.prog:=by rw[<-N];rfl
 have ca:x.w=b.w:=by rw[<-N];rfl
 have mp:x.K=b.K:=by rw[<-N];rfl
 have co:x.A=b.A:=by rw[<-N];rfl
 have ms:x.calm=X:=by rw[<-N];exact pm
 have cd:x.env.locals=aO:=by rw[<-N];rfl
 have hd:x.ex=bF:=by rw[<-N];rfl
 have fn:x.eZ=D:=by rw[<-N];rfl
 have rs:x.o4=SP:=by rw[<-N];rfl
 have sc:x.aa=h8 b.stack:=by rw[<-N];rfl
 have fr:x.kQ=[]:=by rw[<-N];rfl
 have he:x.cU=λ_ P=>False:=by rw[<-N];rfl
 have m0:x.env=s9 SQ (F++ko b.env SQ.names) aO b.env:=by rw[<-N];rfl
 have na:∀d h,x.env.cells.lookup d=Z h->aO+1<=h\/b.env.cells.lookup d=Z h:=λd h e=>by
  rw[m0]at e;rcases SM.two an.ok e with z|⟨_,z⟩
  ·exact .inl (bm.jQ d h z).1
  ·exact .inr z
 have sn:∀d h,x.env.cells.lookup d=Z h->h≠B:=λd h e z=>by
  rcases na d h e with y|y
  ·rw[z,<-ap]at y;exact absurd (ew (z8 bs) y) (Nat.not_succ_le_self _)
  ·have:=an.wC y;rw[z,<-ap]at this;exact jx _ this
 have hf:∀f∈bF,f≠B:=λf s z=>by
  have:=cl f s;rw[z,<-ap]at this;exact jx _ this
 have sp:B∉x.aa:=λz=>by
  let@⟨_,⟨@n,ce,_⟩⟩:=g3.iO.mem z;rw[fn]at ce;have:=cn ce;rw[ap]at this;exact jx _ this
 have hm:∀(T:ax) (n:bj),(∀f∈bF,T f=Y)->∀f∈bF,jV x [(B,n)] T f:=λT n hw f s=>by
  refine⟨hw f s,?_,?_,.inl (by rw[hd];exact s),λd h e=>(na d h e).elim (λy=>lH (eX (cl f s) (ew fd (by rw[ap]at fd;exact y)))) λy=>(a2 f s).2.2.2.2.1 d h y,λq I=>?_⟩
  ·rw[cd];exact dU (eX (cl f s) bs)
  ·exact g3.pX f (by rw[hd];exact s)
  ·rw[fr]at I;have:q=(B,n):=by simpa using I
   rw[this];exact fP (hf f s)
 have nb:∀h0:ao,h0={D with heap:=gt,toks:=D.toks+([]:List (aD×ae)).length}->
   codeAny (aS b.prog b.w) b.A (.compLoop (.ListComp TF [⟨S1,Tr,R,0⟩] SQ SK) 0 (.ref it) (.ref B) x.env)
    (compPost (aS b.prog b.w) b.A b.cU use ga (.ref B) aO) h0:=by
  rintro h0 rfl;refine Hk (λp Sr=>∃(a:Nat) (SI:List aj) (T:ax) (SG:List ae) (o:Nat),aH x [(B,{cls:=.type "list",data:=.seq SG.toArray o})] (jD own SV A) T Sr/\bW SI SG/\SI.length<=sizeLine/\i a Sr.heap/\
   (∀f∈bF,T f=Y)/\W a p SI T) ?_ rc ?_
  ·rintro p ne ⟨a,SI,Q,SG,o,ii,f0,nl,nm,nn,ss⟩;rcases turn a p SI Q ss with ⟨stop,sw⟩|⟨go,SY,no,step⟩
   ·have:=S.done x bv ca mp ms a _ ne _ Q (λ_ P=>False) ii (hm Q _ nn) nm stop;rw[co]at this;refine bX this λu J al=>?_;let@⟨im,bd⟩:=al;subst im;let⟨@H,hw,P⟩:=bd.loc;have sB:J.heap.Ns aO H:=by rw[<-cd];exact hw
    have I:=bd.pin (B,{cls:=.type "list",data:=.seq SG.toArray o}) (by rw[fr];simp);have ch:Q B=Y:=I.2.1;have ea:∀f,f≠aO->J.heap.get? f=J.heap.get? f:=λf s=>rfl;have ci:∀f n,D.heap.get? f=Z n->f≠aO:=λf n c=>dU (eX (cn c) bs);have sK:∀f n,D.heap.get? f=Z n->f≠B:=λf n c=>by rw[<-ap];exact dU (cn c)
    have as:fa (h8 b.stack) bF SP Q D.heap J.heap:=by
     have:=bd.base;rw[sc,hd,rs,fn]at this;exact this
    have L:fa (h8 b.stack) bF SP (upd Q B<|.lst SI) D.heap J.heap:=
     ⟨λf n c p s bi=>(ea f<|ci f n c).trans<|as.keep f n c p s bi,
      λf n c p s bi=>by
      let⟨@aQ,r⟩:=as.slot f n c p s bi;exact⟨aQ,(ea f<|ci f n c).trans r⟩,
      λf n c p bi=>by rw[c2 (sK f n c)];exact as.free f n c p bi,
      λf n c bi=>by
      let⟨@S7,r⟩:=as.there f n c bi;exact⟨S7,(ea f<|ci f n c).trans r⟩,
      λf w c=>by rw[c2 (g_ (as.kk f w c) ch)];exact as.kk f w c,
      λf n w c=>by rw[c2 (g_ (as.j9 f n w c) ch)];exact as.j9 f n w c,
      λf SJ c=>by
      let⟨@s0,r⟩:=as.lF f SJ c;exact⟨s0,by rw[c2 (g_ r ch)];exact r⟩⟩
    have np:∀f n,Q f=Z n->f≠aO:=λf n c z=>by
     have:=bd.free;rw[cd,<-z,c]at this;cases this
    have s1:eb b.prog b.w (upd Q B<|.lst SI) J.heap:=λg n c=>by
     by_cases ns:g=B
     ·subst ns;rw[eT]at c;cases c;exact⟨nl,SG,o,f0,(ea _ bn).trans I.1⟩
     ·rw[c2 ns]at c;have:=bd.aY g n c;rw[bv,ca]at this;refine this.i4 (λf L s r=>(ea f ?_).trans r) (λf r=>by rw[c2 (g_ r ch)];exact r) λf w r=>by rw[c2 (g_ r ch)];exact r
      rcases s with z|z
      ·rw[z];exact np g n c
      ·exact np f _ z
    have s2:aH b G A (upd Q B<|.lst SI) J:=an.Oi (Sr:=J) (TB:=bF) (by have:=bd.os;rw[fn]at this;exact this) L s1 bd.bare λf s=>⟨(a2 f s).2.2.2.1,(a2 f s).2.1,(a2 f s).2.2.2.2.1,(a2 f s).2.2.2.2.2⟩;have s3:b.env.locals≠aO:=by
     let⟨@ww,s4,P⟩:=an.loc;let⟨n,P,@P,ce,P⟩:=s4;exact ci _ _ ce
    have s5:∀d h,b.env.cells.lookup d=Z h->h≠aO:=λd h e=>by
     let⟨v,@n,ce,P⟩:=an.cell d h e;exact ci _ _ ce
    refine pu B aO _ J H s2 sB ?_ s3 s5 ?_ (λq I=>ci _ _ (an.pin q I).1) (sw B ch)
    ·rw[c2 (fP bn)];have:=bd.free
     rwa [cd]at this
    ·exact ew an.kf bs
   ·have:=S.item x bv ca mp ms a _ ne _ Q (λ_ P=>False) ii (hm Q _ nn) nm go;rw[co]at this;refine bX this λu J al=>?_;let⟨@L,im,to⟩:=al;subst im;refine bX to λ_ cr al=>?_;let⟨d,@io,tt,ty,tz,jp,t0⟩:=al;have t1:=tt.pinned (hm io _ t0) (S.obj _ _ jp);have nw:=lw _ cr _ io d L _ t1 ty (step d io tz);rw[bv,ca,co,he]at nw;refine bX nw λ_ t3 al=>?_;let⟨cs,@ul,un,up,us⟩:=al;have of:=mb _ t3 cs ul _ un us;rw[bv,ca,co,he]at of;refine bX of λf ut al=>?_;let⟨@ol,f1,f2⟩:=al;have on:∀{op:a3}{T:ax}{Sr:ao},aH x ([(B,{cls:=.type "list",data:=.seq SG.toArray o})]++lV bF cr.heap) op T Sr->(∀f∈bF,T f=Y)/\i (a+1) Sr.heap:=λ{op T Sr} db=>by
     refine⟨λf s=>?_,S.keep _ _ _ jp λf s n c=>(db.pin (f,n)<|dQ _<|dQ _<|t7 s c).1⟩;let⟨@n,c,P⟩:=S.obj _ _ jp f s;exact (db.pin (f,n)<|dQ _<|dQ _<|t7 s c).2.1
    have hg:∀{kt:List (af×bj)}{T:ax}{Sr:ao},aH x kt cs T Sr->aH x kt (jD own SV A) T Sr:=λ{kt T Sr} db=>
     db.weak (by rw[db.len,ii.len]) up;cases f with
    |false=>
     rw[aM dA]at f2;let⟨@kw,lc,u8⟩:=no _ _ f2;rw[aM dA];let@⟨S6,S8⟩:=on f1;exact⟨kw,lc,a+1,SI,ol,SG,o,hg (f1.pV λq I=>f1.pin q (by
      rw[fr];simp at I ⊢;exact .inl I)),f0,nl,S8,S6,u8⟩
    |true=>
     rw[aJ rfl]at f2 ⊢;have o0:=mo _ ut cs ol _ f1 f2;rw[bv,ca,co,he]at o0;refine bX o0 λam be al=>?_;let⟨v0,@lf,f4,v1,wE,v2⟩:=al;let⟨@kw,lc,v4⟩:=no _ _ v2;have I:=f4.pin (B,{cls:=.type "list",data:=.seq SG.toArray o}) (dQ _ (dK _ ↥0));have li:=I.1;refine ox Gp ⟨_,li,rfl⟩ Hb (Ah _ _) (Bz B SG.toArray o am (by rw[cO,<-f0.length];lia)) ⟨li,?_⟩;have r:=Bq li (λg=>g.push am);let@⟨S6,S8⟩:=on f4;have v6:aH x (lV bF cr.heap) cs lf be:=f4.pV λq I=>f4.pin q (dQ _<|dQ _ I);have pc:∀f n,f≠B->be.heap.get? f=Z n->(be.heap.update B<|bj.mapSeq λg=>g.push am).get? f=Z n:=λf n s c=>(ks be.heap _<|fP s).trans c;have wf:aH x (lV bF cr.heap) cs lf {be with heap:=be.heap.update B (bj.mapSeq λg=>g.push am),toks:=be.toks}:=
      v6.turned (it:=B) pc I.2.1 (by rw[cd];exact bn) (.inr (by rw[fn,ap];exact bl _)) sn λq f8=>by
       rw[fr]at f8;let@⟨s,_⟩:=Bn (show q∈lV bF cr.heap by simpa using f8);exact hf _ s
     refine⟨kw,lc,a+1,SI++[v0],lf,SG++[am],o+1,hg<|wf.pV λq f8=>?_,f0.append<|.cons v1 .nil,?_,?_,S6,v4⟩
     ·have c:q=(B,{cls:=.type "list",data:=.seq (SG++[am]).toArray (o+1)}):=by simpa using f8
      subst c;refine⟨?_,I.2.1,I.2.2.1,I.2.2.2.1,λv z=>by cases z⟩;have wl:SG.toArray.push am=(SG++[am]).toArray:=by simp
      rw[<-wl];have pi:IsL (be.heap.update B<|bj.mapSeq λg=>g.push am) B (SG.toArray.push am) (if (SG.toArray.push am).size==SG.toArray.size then o else o+1):=r;rw[aM ↥0]at pi;exact pi
     ·rw[c5,eD];lia
     ·refine S.keep _ _ _ S8 λf s n c=>pc f n (hf f s) c
  ·refine⟨0,[],SP,[],0,?_,.nil,gI _,S.keep _ _ _ gl λf P n c=>g2 f n c,λf s=>(a2 f s).1,re⟩;refine (lv _).pV λq I=>?_;have c:q=(B,{cls:=.type "list",data:=.seq ([]:List ae).toArray 0}):=by simpa using I
   subst c;exact⟨ls,an.aY.fresh (by rw[ap];exact bl _),by rw[cd];exact bn,sp,λv z=>by cases z⟩
 have wn:s9 SQ (F++ko b.env SQ.names) aO b.env=x.env:=m0.symm;show codeAny (aS b.prog b.w) b.A (.compStart _ 0 (.ref it) (.ref B)<|s9 SQ (F++ko b.env SQ.names) aO b.env) _ _;rw[wn];exact codeAny_compStart_list (nb _ rfl) (S.self b.A 0 _ _ _ (S.keep _ _ _ gl λf P n c=>g2 f n c)<|nb _ rfl)
def P4(i:b.calm=X)(SM:hS b SQ own SV)(U:k4 b S1 Tr fg)(l:∀a,jw (b.fL (fT b own SV) SQ a) S1<|M a)(o:∀a,rB (b.fL (fT b own SV) SQ a) R<|TL a)(p:∀a,bN (b.fL (fT b own SV) SQ a) TF<|TA a)(s:∀d,ma Tr b.env d=pure d:=by intro W;rfl):bN b (.ListComp TF [⟨S1,Tr,R,0⟩] SQ SK) (vC own SV fg M TL TA):=by
 intro G j A m D E e;show wpAny _ b.A (yx (.ListComp TF [⟨S1,Tr,R,0⟩] SQ SK) SQ b.env _ (qQ []) ar (ck Tr b.env) Y) _ _ j;refine Cc (use:=Y) (ga:=eO b G A D) i SM U l o p s E e λB aO t g H u v x k h w q r=>?_;show ∃H,g.heap.Ns aO H/\∀Sq,a5.SameBut aO g.heap Sq->eO b G A D (.ref B) {g with heap:=Sq};refine⟨H,v,λSq cv=>⟨.ref B,t,?_,rfl,r⟩⟩;exact u.turned (it:=aO) (S5:=g.toks) (λf n y c=>(cv.2 f y).trans c) x (fP k) (.inr w) h q
end
def iR(e:a5)(s:af)(SH:List ae)(Tg:Nat):Prop:=(∃n Sx,e.get? s=Z n/\n.ExactDict/\n.data=.dict Sx Tg/\Sx.toList.map (·.key)=SH)
def iR.ty(d:iR j.heap s SH Tg):j.TypeIs (.ref s) "dict" := let ⟨n,_,c,h,_⟩:=d;⟨n,c,h.1⟩
def iR.lt(d:iR e s SH Tg):s<e.objs.size:=let ⟨_,_,c,_⟩:=d;cn c
def iR.go{Sq:a5}(d:iR e s SH Tg)(o:∀n,e.get? s=Z n->Sq.get? s=Z n):iR Sq s SH Tg:=let ⟨n,Sx,c,u⟩:=d;⟨n,Sx,o n c,u⟩
section
variable{Sz:bA}{l:bk}{O:bw}{Sv:ae->ao->Prop}{j:ao}
def Ry{D:ae->ao->Prop}(Q:(s==iq)=ar)(d:iR j.heap s SH Tg)(r:D (.ref j.heap.objs.size) {j with heap:=j.heap.push {cls:=.type "dict_keyiterator",data:=.fields #[.ref s,.int 0 0,.int SH.length 0,.int Tg 0]} }):wpAny (aS Sz l) O (sy<|.ref s) D Sv j:=by
 have ty:=d.ty;let⟨n,@Sx,a,e,b,c⟩:=d;have p:Sx.size=SH.length:=by rw[<-c,a9,fy]
 refine wpAny_pyIter_slot ty CV (iH CV ty F.entry_dict_iter ?z<|F.args_dict_iter_1 _)
 case z=>
  unfold a_.«dict.__iter__» a_.Dict.dictSlotNone;refine aw (aw<|yz ty ?_);show wpAny _ _ (pure<|ae.ref s) _ _ j;apply aW;show wpAny _ _ (a_.Dict.showsAll s >>= _) _ _ j;unfold a_.Dict.showsAll;rw[aM (by rw[Q];simp)];refine aw (aW<|aw<|k7 a b<|aw<|qE a b<|aw<|ib<|aW ⟨_,rfl,"dict_keyiterator",_,⟨_,dx _ rfl,rfl⟩,r6.lookup,?_⟩);simpa [kE,p] using r
def JM{it s:af}{v:ae}(b:j.heap.IsKeyIter it s a SH.length Tg)(d:iR j.heap s SH Tg)(e:SH[a]?=Z v)(r:∀Sq,Sq.IsKeyIter it s (a+1) SH.length Tg->a5.SameBut it j.heap Sq->D (Z v) {j with heap:=Sq}):wpAny (aS Sz l) O (hK<|.ref it) D Sv j:=by
 let⟨@q,f,o,c⟩:=id b;let⟨n,@Sx,h,t,i,k⟩:=d;have p:Sx.size=SH.length:=by rw[<-k,a9,fy]
 have U:a<Sx.size:=by
  have:a<SH.length:=(fX.mp e).1;lia
 have TO:Sx[a].key=v:=by
  rw[<-k,gq,gU,CP U]at e;exact Option.some.inj e
 unfold hK;refine aw (q7<|k6 (name:=aD.ofString "__next__") b.typeIs r6<|iH r6 b.typeIs Eu ?g<|B4 _)
 case g=>
  refine aw (aW<|aw<|aw ?_);refine aw (ug b.typeIs<|aW<|aw<|D2 f c ?_);simp only[show a_.Dict_items.ownsTuple "dict_keyiterator" = ar by decide,iL,gD];show wpAny _ _ (if (ae.ref s==ae.none)=X then _ else _) _ _ j;rw[aM (show ¬ (ae.ref s==ae.none)=X by intro g;cases g)];refine aw (aW<|aw<|k7 h i ?_);rw[aM (by simp[p])];refine aw (aW<|aw<|qE h i ?_);rw[aM ↥0];apply aW;simp only[show ¬ ((a:Int)<0) by lia,gD,qn,CP U];refine aw (aw<|ug b.typeIs<|aW<|aw<|Gd b.typeIs ?_);show wpAny _ _ (setField (.ref it) 1 (kE<|(a:Int)+1) >>= _) _ _ j;have m:(j.heap.update it (bj.mapFields (·.setIfInBounds 1 (kE<|(a:Int)+1)))).IsKeyIter it s (a+1) SH.length Tg:=
   ⟨_,l2 _ f<|zO<|uK c _,(GG ..).trans o,by rw[uK c];simp[kE]⟩;refine aw (uC f c ↥0 (aw (fB (aw (Gd (s:={j with heap:=j.heap.update it (bj.mapFields (·.setIfInBounds 1 (kE<|(a:Int)+1)))}) m.typeIs ?_)))));show wpAny _ _ (pure Sx[a].key) _ _ _;rw[TO];exact aW (aW ⟨_,rfl,aW<|r _ m<|jB ..⟩)
def Ma{it s:af}(m:O.handled=Y)(b:j.heap.IsKeyIter it s a SH.length Tg)(d:iR j.heap s SH Tg)(q:SH.length<=a)(r:∀Sq,a5.ExtBut it j.heap Sq->D Y {j with heap:=Sq}):wpAny (aS Sz l) O (hK<|.ref it) D Sv j:=by
 let⟨@t,e,u,h⟩:=id b;let⟨n,@Sx,i,v,k,o⟩:=d;have p:Sx.size=SH.length:=by rw[<-o,a9,fy]
 unfold hK;refine aw (q7<|k6 (name:=aD.ofString "__next__") b.typeIs r6<|iH r6 b.typeIs Eu ?c<|B4 _)
 case c=>
  refine aw (aW<|aw<|aw ?_);refine aw (ug b.typeIs<|aW<|aw<|D2 e h ?_);simp only[show a_.Dict_items.ownsTuple "dict_keyiterator" = ar by decide,iL,gD];show wpAny _ _ (if (ae.ref s==ae.none)=X then _ else _) _ _ j;rw[aM (show ¬ (ae.ref s==ae.none)=X by intro c;cases c)];refine aw (aW<|aw<|k7 i k ?_);rw[aM (by simp[p])];refine aw (aW<|aw<|qE i k ?_);rw[aM ↥0];apply aW;simp only[show ¬ ((a:Int)<0) by lia,gD,qn,Array.getElem?_eq_none (show Sx.size<=a by lia)];refine aw (aw<|ug b.typeIs<|aW ?_);show wpAny _ _ (setField (.ref it) 0 .none >>= _) _ _ j;refine aw (uC e h ↥0 ?_);show wpAny _ _ (uh (.type "StopIteration") [] >>= _) _ _ _;apply aw;simp only[uh,yp];refine aw (ib (aw (m:=ur _ _) (s_ (a:=ae.none) (by first|rfl|(simp only[ur];rfl)) (ib ?_ (by size_fits)))) (by size_fits));simp only[raiseNew];apply aw;apply B6;rw[show O.in1.handled=Y from m];refine aw (m:=pure _) (aW<|wpAny_throw ?_);apply aw;refine q1 (T := "StopIteration") (b:=X) ⟨_,dx _ rfl,rfl⟩ C2 ?_;exact aW (r _<|((jB ..).extBut.push _).push _)
theorem L9(k:O.handled=Y)(it s:af)(ne:s≠it)(SH:List ae)(Tg:Nat):mn Sz l O it [it,s] [it] SH.length (λa v=>SH[a]?=Z v) (λa e=>e.IsKeyIter it s a SH.length Tg/\iR e s SH Tg) where
 sub:=λf m=>by
  have:f=it:=by simpa using m
  simp[this]
 frame:=λa e Sq z o=>⟨let ⟨n,c,u⟩:=z.1;⟨n,o it ↥0 n c,u⟩,z.2.go (o s ↥0)⟩
 item:=λa j D Sv U z b=>by
  have i:SH[a]?=Z SH[a]:=by simp[U]
  refine JM z.1 z.2 i λSq g f=>b _ Sq j.toks i ⟨g,z.2.go λn c=>f.extBut s n ne c⟩ λh n d c=>f.extBut h n ⇑d c
 done:=λj D Sv z b=>Ma k z.1 z.2 (bl _) λSq f=>b Sq j.toks λh n d c=>f h n ⇑d c
 self:=λa j D Sv z b=>wpAny_pyIter_keyiter z.1 b
theorem J4(Q:(s==iq)=ar):PySem.W.KdlSrc Sz l "dict" s s SH.length (λa v=>SH[a]?=Z v) (λe=>iR e s SH Tg) where
 type:=λj d=>d.ty
 there:=λe d=>⟨d.lt,d.lt⟩
 keep:=λe Sq d o=>d.go (o s<|.inl rfl)
 notList:=by decide
 notTuple:=by decide
 hint:=λO Sv j D d r=>PySem.W.kdl_hint_dict d.ty r
 iter:=λO j b d=>⟨_,_,(λSv D r=>Ry Q d r),L9 b _ s (dU d.lt) SH Tg,⟨⟨_,dx _ rfl,rfl,rfl⟩,d.go λn c=>cw _ c⟩⟩
end
end L2
namespace L2
open Spec PyProof.Rows PySem.W
section
variable{p:Nat}{P:Nat->Int}{b:Nat->Nat->(Bool->ao->Prop)->ao->Prop}
def ba(P:Nat->Int)(q:Array Nat)(a:Nat):Int:=(P (q.getD a 0))
def i0(P:Nat->Int)(q:Array Nat)(H:Nat):Prop:=(∀a i,a<=i->i<H->ba P q a<=ba P q i)
def fO(p:Nat)(P:Nat->Int)(b:Nat->Nat->(Bool->ao->Prop)->ao->Prop)(j:ao):Prop:=(∀a i aO,a<p->i<p->aO (decide (P a<P i)) j->b a i aO j)
def c4(p:Nat)(q:Array Nat):Prop:=(q.toList.Perm (range p))
variable{q:Array Nat}
def c4.size(e:c4 p q):q.size=p:=by
 have:=e.length_eq;simpa using this
def c4.lt(e:c4 p q){a:Nat}(U:a<p):q.getD a 0<p:=by
 have b:=e.size;have c:q.getD a 0=q[a]:=by simp[Array.getD,b,U]
 rw[c];have:q[a]∈q.toList:=by simp
 exact gr.mp (e.mem_iff.mp this)
def c4.ne(e:c4 p q)(inj:∀a i,a<p->i<p->P a=P i->a=i){a i:Nat}(k:a<i)(d:i<p):ba P q a≠ba P q i:=by
 intro c;have b:=e.size;have f:=inj _ _ (e.lt (by omega)) (e.lt d) c;have g:q.getD a 0=q[a]:=by simp[Array.getD,b,show a<p by omega]
 have h:q.getD i 0=q[i]:=by simp[Array.getD,b,d]
 rw[g,h]at f;have ah:q.toList.Nodup:=e.nodup_iff.mpr List.nodup_range;have j:q.toList[a]'(by simpa [b] using (show a<p by omega))=q.toList[i]'(by simpa [b] using d):=by simpa using f
 have:=(xJ ah).mp j;omega
def l_{r:Array Nat}{a i:Nat}(c:q[a]?=r[i]?):ba P q a=ba P r i:=by
 unfold ba;rw[C4,C4,c]
theorem c4.rev(e:c4 p q)(a i:Nat):c4 p (mq q a i):=(E3.mp<|mirror_perm q a i _).trans e
theorem c4.Nt(e:c4 p q)(a i:Nat):c4 p (qy q a i):=(E3.mp<|bubble_perm q a i).trans e
end
section
variable{Sz:bA}{l:bk}{O:bw}{Sv:ae->ao->Prop}{SS:gA}{it:Array bf}{P:Nat->Int}{p:Nat}{j:ao}
def pI:Bool->bf->Array bf->Nat->Nat->Nat->StateT bz dR (Option Nat):=(sortPriv% PySem.Builtin.gallop)
def q4(b:fO p P (ff Sz l O SS it) j){a i:Nat}(U:a<p)(c:i<p){z:bz}(d:kindOf z=SS){D:Option Bool->bz->ao->Prop}(e:D (Z<|decide (P a<P i)) z j):
  kasC (aS Sz l) O Sv (lt' (bb it a)<|bb it i) D z j:=by
 rw[lt'_eq];apply bh;apply j6;have:=b a i (λh Sr=>Sr=j/\h=decide (P a<P i)) U c ⟨rfl,rfl⟩;unfold ff at this;rw[d];refine bh (nc<|q7<|hl this (λh Sr f=>?_) λ_ W g=>g.elim);let@⟨rfl,rfl⟩:=f;exact bc e
theorem gC{A Tx:Type}{aA:hp}{x:Nat->Tx->StateT A dR (ForInStep Tx)}{D:Tx->A->ao->Prop}(E:Nat->Tx->A->ao->Prop)(step:∀d h z Sr,E d h z Sr->kasC aA O Sv (x d h) (λu b f=>match u with | .yield a=>E (d+1) a b f | .done a=>D a b f) z Sr):∀(H g:Nat) (h:Tx) (z:A) (Sr:ao),(∀h z Sr,E (g+H) h z Sr->D h z Sr)->E g h z Sr->
   kasC aA O Sv (forIn (range' g H) h x) D z Sr
 |0,g,h,z,Sr,fin,e=>by
  show kasC aA O Sv (forIn ([]:List Nat) h x) D z Sr;exact kasC_nil (fin h z Sr e)
 |H+1,g,h,z,Sr,fin,e=>by
  show kasC aA O Sv (forIn (g::range' (g+1) H) h x) D z Sr;refine kasC_cons (hl (step g h z Sr e) (λu f Sq=>?_) λ_ W c=>c);let⟨u,b⟩:=u;cases u with
  |done a=>exact Sq
  |yield a=>exact gC E step H (g+1) a b f (λh z Sr U=>fin h z Sr (by rw[show g+(H+1)=g+1+H by lia];exact U)) Sq
def cM(P:Nat->Int)(left:Bool)(o:Nat)(bU:Array Nat)(SA a:Nat):Bool:=(if left=X then decide (P (bU.getD (SA+a) 0)<P o) else !decide (P o<P (bU.getD (SA+a) 0)))
def Cu(R:fO p P (ff Sz l O SS it) j){left:Bool}{o:Nat}(S:o<p){bU:Array Nat}(ap:∀a,a<bU.size->bU.getD a 0<p){SA H b:Nat}(bd:SA+H<=bU.size)(as:b<H)(mono:∀a i,a<=i->i<H->cM P left o bU SA i=X->cM P left o bU SA a=X){z:bz}(T:kindOf z=SS){D:Option Nat->bz->ao->Prop}(e:∀u,u<=H->(∀a,a<u->cM P left o bU SA a=X)->(∀a,u<=a->a<H->cM P left o bU SA a=ar)->D (Z u) z j):
  kasC (aS Sz l) O Sv (pI left (bb it o) (bU.map<|bb it) SA H b) D z j:=by
 have a1:∀a,a<H->(bU.map<|bb it)[SA+a]?=Z (bb it<|bU.getD (SA+a) 0):=λa U=>by
  have:SA+a<bU.size:=⋯
  simp[Array.getD,this]
 have ask:∀a,a<H->∀N:Option Bool->bz->ao->Prop,N (Z<|cM P left o bU SA a) z j->
   kasC (aS Sz l) O Sv (do let d <-elem' (bU.map<|bb it) (SA+a);if left=X then lt' d (bb it o) else do let u <-lt' (bb it o) d;pure (u.map λd=>!d)) N z j:=λa U N J=>by
  rw[u4,a1 a U];apply bh;apply bc;have al:=ap (SA+a) ⋯;unfold cM at J;cases left with
  |true=>
   rw[aJ rfl]at J ⊢;exact q4 R al S T J
  |false=>
   rw[aM dA]at J ⊢;exact bh (q4 R S al T<|bc J)
 unfold pI;with_unfolding_all refine bh ?_;refine ask b as _ ?_;dsimp only;cases am:cM P left o bU SA b with
 |true=>
  rw[aJ rfl];apply bh;apply fI;have G:∀last k,last<k->b+last<H->cM P left o bU SA (b+last)=X->(k >= H-b\/cM P left o bU SA (b+k)=ar)->
    b+last+1<=b+min k (H-b)/\b+min k (H-b)<=H/\(∀a,a<b+last+1->cM P left o bU SA a=X)/\(∀a,b+min k (H-b)<=a->a<H->cM P left o bU SA a=ar)/\b+min k (H-b)-(b+last+1)<=H-0:=λlast k a2 an M F=>by
   refine⟨⋯,⋯,λa U=>mono a (b+last) ⋯ an M,λa t C=>?_,⋯⟩;rcases F with F|F
   ·lia
   ·cases x:cM P left o bU SA a with
    |false=>rfl
    |true=>rw[mono (b+k) a ⋯ C x]at F;cases F
  refine gC (λd h q Sr=>q=z/\Sr=j/\∃last k,h=(Y,last,k)/\last<k/\d<k/\b+last<H/\cM P left o bU SA (b+last)=X) ?_ _ 0 _ _ _ ?_ ⟨rfl,rfl,0,1,rfl,⋯,⋯,⋯,am⟩
  ·rintro d h q Sr ⟨r,s,last,k,rfl,t,C,m,n⟩;rw[r,s];dsimp only;by_cases I:k >= H-b
   ·rw[aJ I];apply bc;dsimp only;have y:=G last k t m n (.inl I);apply bh;apply fI;refine gC (λd h q Sr=>q=z/\Sr=j/\∃Q U,h=(Y,Q,U)/\Q<=U/\U<=H/\(∀a,a<Q->cM P left o bU SA a=X)/\(∀a,U<=a->a<H->cM P left o bU SA a=ar)/\U-Q<=H-d) ?_ _ 0 _ _ _ ?_ ⟨rfl,rfl,_,_,rfl,y⟩
    ·rintro d h q Sr ⟨r,s,Q,U,rfl,t,C,m,n,A⟩;rw[r,s];dsimp only;by_cases w:Q >= U
     ·rw[aJ w];apply bc;dsimp only;have c:Q=U:=⋯
      subst c;exact bc (e Q C m n)
     ·rw[aM w];have B:Q<=Q+(U-Q)/2:=⋯
      have E:Q+(U-Q)/2<U:=⋯
      generalize Q+(U-Q)/2=mid at B E ⊢;refine bh (ask mid ⋯ _ ?_);dsimp only;cases v:cM P left o bU SA mid with
      |true=>
       rw[aJ rfl];exact bc ⟨rfl,rfl,mid+1,U,rfl,⋯,C,λa L=>mono a mid ⋯ ⋯ v,n,⋯⟩
      |false=>
       rw[aM dA];refine bc ⟨rfl,rfl,Q,mid,rfl,⋯,⋯,m,λa g f=>?_,⋯⟩;cases x:cM P left o bU SA a with
       |false=>rfl
       |true=>rw[mono mid a g f x]at v;cases v
    ·rintro h q Sr ⟨r,s,Q,U,rfl,t,C,m,n,A⟩;rw[r,s];dsimp only;have c:Q=U:=⋯
     subst c;exact bc (e Q C m n)
   ·rw[aM I];refine bh (ask (b+k) ⋯ _ ?_);dsimp only;cases v:cM P left o bU SA (b+k) with
    |true=>
     simp only[tC,iL,gD];exact bc ⟨rfl,rfl,k,2*k+1,rfl,⋯,⋯,⋯,v⟩
    |false=>
     simp only[Bool.not_false,hx];apply bc;dsimp only;have y:=G last k t m n (.inr v);apply bh;apply fI;refine gC (λd h q Sr=>q=z/\Sr=j/\∃Q U,h=(Y,Q,U)/\Q<=U/\U<=H/\(∀a,a<Q->cM P left o bU SA a=X)/\(∀a,U<=a->a<H->cM P left o bU SA a=ar)/\U-Q<=H-d) ?_ _ 0 _ _ _ ?_ ⟨rfl,rfl,_,_,rfl,y⟩
     ·rintro d h q Sr ⟨r,s,Q,U,rfl,t,C,m,n,A⟩;rw[r,s];dsimp only;by_cases w:Q >= U
      ·rw[aJ w];apply bc;dsimp only;have c:Q=U:=⋯
       subst c;exact bc (e Q C m n)
      ·rw[aM w];have B:Q<=Q+(U-Q)/2:=⋯
       have E:Q+(U-Q)/2<U:=⋯
       generalize Q+(U-Q)/2=mid at B E ⊢;refine bh (ask mid ⋯ _ ?_);dsimp only;cases v:cM P left o bU SA mid with
       |true=>
        rw[aJ rfl];exact bc ⟨rfl,rfl,mid+1,U,rfl,⋯,C,λa L=>mono a mid ⋯ ⋯ v,n,⋯⟩
       |false=>
        rw[aM dA];refine bc ⟨rfl,rfl,Q,mid,rfl,⋯,⋯,m,λa g f=>?_,⋯⟩;cases x:cM P left o bU SA a with
        |false=>rfl
        |true=>rw[mono mid a g f x]at v;cases v
     ·rintro h q Sr ⟨r,s,Q,U,rfl,t,C,m,n,A⟩;rw[r,s];dsimp only;have c:Q=U:=⋯
      subst c;exact bc (e Q C m n)
  ·rintro h q Sr ⟨r,s,last,k,rfl,t,C,m,n⟩;rw[r,s];dsimp only;have y:=G last k t m n (.inl ⋯);apply bh;apply fI;refine gC (λd h q Sr=>q=z/\Sr=j/\∃Q U,h=(Y,Q,U)/\Q<=U/\U<=H/\(∀a,a<Q->cM P left o bU SA a=X)/\(∀a,U<=a->a<H->cM P left o bU SA a=ar)/\U-Q<=H-d) ?_ _ 0 _ _ _ ?_ ⟨rfl,rfl,_,_,rfl,y⟩
   ·rintro d h q Sr ⟨r,s,Q,U,rfl,t,C,m,n,A⟩;rw[r,s];dsimp only;by_cases w:Q >= U
    ·rw[aJ w];apply bc;dsimp only;have c:Q=U:=⋯
     subst c;exact bc (e Q C m n)
    ·rw[aM w];have B:Q<=Q+(U-Q)/2:=⋯
     have E:Q+(U-Q)/2<U:=⋯
     generalize Q+(U-Q)/2=mid at B E ⊢;refine bh (ask mid ⋯ _ ?_);dsimp only;cases v:cM P left o bU SA mid with
     |true=>
      rw[aJ rfl];exact bc ⟨rfl,rfl,mid+1,U,rfl,⋯,C,λa L=>mono a mid ⋯ ⋯ v,n,⋯⟩
     |false=>
      rw[aM dA];refine bc ⟨rfl,rfl,Q,mid,rfl,⋯,⋯,m,λa g f=>?_,⋯⟩;cases x:cM P left o bU SA a with
      |false=>rfl
      |true=>rw[mono mid a g f x]at v;cases v
   ·rintro h q Sr ⟨r,s,Q,U,rfl,t,C,m,n,A⟩;rw[r,s];dsimp only;have c:Q=U:=⋯
    subst c;exact bc (e Q C m n)
 |false=>
  rw[aM dA];apply bh;apply fI;have G:∀last k,last<k->last<=b->cM P left o bU SA (b-last)=ar->(k >= b+1\/cM P left o bU SA (b-k)=X)->
    b+1-min k (b+1)<=b-last/\b-last<=H/\(∀a,a<b+1-min k (b+1)->cM P left o bU SA a=X)/\(∀a,b-last<=a->a<H->cM P left o bU SA a=ar)/\b-last-(b+1-min k (b+1))<=H-0:=λlast k a2 an M F=>by
   refine⟨⋯,⋯,λa U=>?_,λa t C=>?_,⋯⟩
   ·rcases F with F|F
    ·lia
    ·exact mono a (b-k) ⋯ ⋯ F
   ·cases x:cM P left o bU SA a with
    |false=>rfl
    |true=>rw[mono (b-last) a ⋯ C x]at M;cases M
  refine gC (λd h q Sr=>q=z/\Sr=j/\∃last k,h=(Y,last,k)/\last<k/\d<k/\last<=b/\cM P left o bU SA (b-last)=ar) ?_ _ 0 _ _ _ ?_ ⟨rfl,rfl,0,1,rfl,⋯,⋯,⋯,am⟩
  ·rintro d h q Sr ⟨r,s,last,k,rfl,t,C,m,n⟩;rw[r,s];dsimp only;by_cases I:k >= b+1
   ·rw[aJ I];apply bc;dsimp only;have y:=G last k t m n (.inl I);apply bh;apply fI;refine gC (λd h q Sr=>q=z/\Sr=j/\∃Q U,h=(Y,Q,U)/\Q<=U/\U<=H/\(∀a,a<Q->cM P left o bU SA a=X)/\(∀a,U<=a->a<H->cM P left o bU SA a=ar)/\U-Q<=H-d) ?_ _ 0 _ _ _ ?_ ⟨rfl,rfl,_,_,rfl,y⟩
    ·rintro d h q Sr ⟨r,s,Q,U,rfl,t,C,m,n,A⟩;rw[r,s];dsimp only;by_cases w:Q >= U
     ·rw[aJ w];apply bc;dsimp only;have c:Q=U:=⋯
      subst c;exact bc (e Q C m n)
     ·rw[aM w];have B:Q<=Q+(U-Q)/2:=⋯
      have E:Q+(U-Q)/2<U:=⋯
      generalize Q+(U-Q)/2=mid at B E ⊢;refine bh (ask mid ⋯ _ ?_);dsimp only;cases v:cM P left o bU SA mid with
      |true=>
       rw[aJ rfl];exact bc ⟨rfl,rfl,mid+1,U,rfl,⋯,C,λa L=>mono a mid ⋯ ⋯ v,n,⋯⟩
      |false=>
       rw[aM dA];refine bc ⟨rfl,rfl,Q,mid,rfl,⋯,⋯,m,λa g f=>?_,⋯⟩;cases x:cM P left o bU SA a with
       |false=>rfl
       |true=>rw[mono mid a g f x]at v;cases v
    ·rintro h q Sr ⟨r,s,Q,U,rfl,t,C,m,n,A⟩;rw[r,s];dsimp only;have c:Q=U:=⋯
     subst c;exact bc (e Q C m n)
   ·rw[aM I];refine bh (ask (b-k) ⋯ _ ?_);dsimp only;cases v:cM P left o bU SA (b-k) with
    |false=>
     rw[aM dA];exact bc ⟨rfl,rfl,k,2*k+1,rfl,⋯,⋯,⋯,v⟩
    |true=>
     rw[aJ rfl];apply bc;dsimp only;have y:=G last k t m n (.inr v);apply bh;apply fI;refine gC (λd h q Sr=>q=z/\Sr=j/\∃Q U,h=(Y,Q,U)/\Q<=U/\U<=H/\(∀a,a<Q->cM P left o bU SA a=X)/\(∀a,U<=a->a<H->cM P left o bU SA a=ar)/\U-Q<=H-d) ?_ _ 0 _ _ _ ?_ ⟨rfl,rfl,_,_,rfl,y⟩
     ·rintro d h q Sr ⟨r,s,Q,U,rfl,t,C,m,n,A⟩;rw[r,s];dsimp only;by_cases w:Q >= U
      ·rw[aJ w];apply bc;dsimp only;have c:Q=U:=⋯
       subst c;exact bc (e Q C m n)
      ·rw[aM w];have B:Q<=Q+(U-Q)/2:=⋯
       have E:Q+(U-Q)/2<U:=⋯
       generalize Q+(U-Q)/2=mid at B E ⊢;refine bh (ask mid ⋯ _ ?_);dsimp only;cases v:cM P left o bU SA mid with
       |true=>
        rw[aJ rfl];exact bc ⟨rfl,rfl,mid+1,U,rfl,⋯,C,λa L=>mono a mid ⋯ ⋯ v,n,⋯⟩
       |false=>
        rw[aM dA];refine bc ⟨rfl,rfl,Q,mid,rfl,⋯,⋯,m,λa g f=>?_,⋯⟩;cases x:cM P left o bU SA a with
        |false=>rfl
        |true=>rw[mono mid a g f x]at v;cases v
     ·rintro h q Sr ⟨r,s,Q,U,rfl,t,C,m,n,A⟩;rw[r,s];dsimp only;have c:Q=U:=⋯
      subst c;exact bc (e Q C m n)
  ·rintro h q Sr ⟨r,s,last,k,rfl,t,C,m,n⟩;rw[r,s];dsimp only;have y:=G last k t m n (.inl ⋯);apply bh;apply fI;refine gC (λd h q Sr=>q=z/\Sr=j/\∃Q U,h=(Y,Q,U)/\Q<=U/\U<=H/\(∀a,a<Q->cM P left o bU SA a=X)/\(∀a,U<=a->a<H->cM P left o bU SA a=ar)/\U-Q<=H-d) ?_ _ 0 _ _ _ ?_ ⟨rfl,rfl,_,_,rfl,y⟩
   ·rintro d h q Sr ⟨r,s,Q,U,rfl,t,C,m,n,A⟩;rw[r,s];dsimp only;by_cases w:Q >= U
    ·rw[aJ w];apply bc;dsimp only;have c:Q=U:=⋯
     subst c;exact bc (e Q C m n)
    ·rw[aM w];have B:Q<=Q+(U-Q)/2:=⋯
     have E:Q+(U-Q)/2<U:=⋯
     generalize Q+(U-Q)/2=mid at B E ⊢;refine bh (ask mid ⋯ _ ?_);dsimp only;cases v:cM P left o bU SA mid with
     |true=>
      rw[aJ rfl];exact bc ⟨rfl,rfl,mid+1,U,rfl,⋯,C,λa L=>mono a mid ⋯ ⋯ v,n,⋯⟩
     |false=>
      rw[aM dA];refine bc ⟨rfl,rfl,Q,mid,rfl,⋯,⋯,m,λa g f=>?_,⋯⟩;cases x:cM P left o bU SA a with
      |false=>rfl
      |true=>rw[mono mid a g f x]at v;cases v
   ·rintro h q Sr ⟨r,s,Q,U,rfl,t,C,m,n,A⟩;rw[r,s];dsimp only;have c:Q=U:=⋯
    subst c;exact bc (e Q C m n)
end
section
variable{P:Nat->Int}
def cp(P:Nat->Int)(k:List Nat):Prop:=(k.Pairwise λd y=>P d<=P y)
structure JY(P:Nat->Int)(v w:List Nat)(b:List Nat)(B F:Nat):Prop where
 perm:b.Perm (v.take B++w.take F)
 aK:cp P (b++v.drop B)
 cv:cp P (b++w.drop F)
 bU:B+1<v.length
 jI:F<w.length
variable{k H:List Nat}
def fs:cp P (k++H)↔cp P k/\cp P H/\∀d∈k,∀y∈H,P d<=P y:=List.pairwise_append
def pC(k:List Nat)(a o:Nat):k.take a++(k.drop a).take o=k.take (a+o):=by rw[List.take_add]
variable{v w b:List Nat}{B F:Nat}
def vt(o:Nat)(perm:b.Perm (v.take B++w.take F))(aK:cp P (b++v.drop B))(cv:cp P (b++w.drop F))(e:∀d∈(v.drop B).take o,∀y∈w.drop F,P d<=P y):
  (b++(v.drop B).take o).Perm (v.take (B+o)++w.take F)/\cp P (b++(v.drop B).take o++v.drop (B+o))/\cp P (b++(v.drop B).take o++w.drop F):=by
 refine⟨?_,?_,?_⟩
 ·rw[<-pC v B o];refine (perm.append_right _).trans ?_;rw[bC,bC];exact ee _ dC
 ·rw[bC,<-nA,fV];exact aK
 ·rw[bC];have c:=fs.mp aK;have f:=fs.mp cv;refine fs.mpr ⟨c.1,fs.mpr ⟨c.2.1.sublist<|tS _ _,f.2.1,e⟩,λd g y a=>?_⟩;rcases dt.mp a with a|a
  ·exact c.2.2 d g y (oB a)
  ·exact f.2.2 d g y a
def v5(o:Nat)(perm:b.Perm (v.take B++w.take F))(aK:cp P (b++v.drop B))(cv:cp P (b++w.drop F))(e:∀d∈(w.drop F).take o,∀y∈v.drop B,P d<=P y):
  (b++(w.drop F).take o).Perm (v.take B++w.take (F+o))/\cp P (b++(w.drop F).take o++v.drop B)/\cp P (b++(w.drop F).take o++w.drop (F+o)):=by
 have:=vt (v:=w) (w:=v) o (perm.trans dC) cv aK e;exact⟨this.1.trans dC,this.2.2,this.2.1⟩
variable{a:Nat}
def j4(e:a<k.length):(k.drop a).take 1=[k.getD a 0]:=by
 rw[jz e,cN,e4 e];rfl
variable{y:Nat}
def ke(e:y∈k.drop a):∃i,a<=i/\i<k.length/\y=k.getD i 0:=by
 let⟨i,b,c⟩:=nt.mp e;have d:=b;rw[gZ]at d;exact⟨a+i,⋯,⋯,by rw[<-c,uo];simp[List.getD,show a+i<k.length by lia]⟩
variable{o:Nat}
def pM(e:y∈(k.drop a).take o):∃i,i<o/\a+i<k.length/\y=k.getD (a+i) 0:=by
 let⟨i,b,c⟩:=nt.mp e;have d:=b;rw[hy,gZ]at d;exact⟨i,by omega,by omega,by rw[<-c,wg,uo];simp[List.getD,show a+i<k.length by omega]⟩
def nG(e:cp P k){a i:Nat}(c:a<=i)(b:i<k.length):P (k.getD a 0)<=P (k.getD i 0):=by
 rcases Nat.lt_or_eq_of_le c with d|rfl
 ·have:=pe.mp e a i ⋯ b d;simpa [List.getD,b,show a<k.length by lia] using this
 ·exact jX _
theorem DM(e:cp P (k++H)):cp P H:=(fs.mp e).2.1
def od{i:Nat}(e:cp P (b++k.drop a))(c:a<=i)(d:i<=o)(f:o<k.length):P (k.getD i 0)<=P (k.getD o 0):=by
 have:=nG (DM e) (a:=i-a) (i:=o-a) ⋯ (by rw[gZ];lia);simpa [List.getD,md,show a+(i-a)=i by lia,show a+(o-a)=o by lia] using this
def gM(P:Nat->Int)(it:Array bf)(v w:List Nat)(out:Array bf):Prop:=(∃b:List Nat,out=(b.map<|bb it).toArray/\b.Perm (v++w)/\cp P b)
def r_{it:Array bf}(perm:b.Perm (v.take B++w.take F))(aK:cp P (b++v.drop B))(cv:cp P (b++w.drop F))(a:F=w.length\/B=v.length):
  gM P it v w ((b.map<|bb it).toArray++(v.map<|bb it).toArray.extract B (v.map<|bb it).toArray.size++(w.map<|bb it).toArray.extract F (w.map<|bb it).toArray.size):=by
 refine⟨b++v.drop B++w.drop F,?_,?_,?_⟩
 ·apply kg;simp[kG,qx]
 ·rw[bC];refine (perm.append_right _).trans ?_;have:(v.take B++w.take F++(v.drop B++w.drop F)).Perm ((v.take B++v.drop B)++(w.take F++w.drop F)):=by
   rw[bC,bC];refine ee _ ?_;rw[<-bC,<-bC];exact fq _ dC
  rw[fV,fV]at this;exact this
 ·rcases a with c|c
  ·rw[c,wt,cB];exact aK
  ·rw[c,wt,cB];exact cv
def uk{it:Array bf}(perm:b.Perm (v.take B++w.take F))(aK:cp P (b++v.drop B))(cv:cp P (b++w.drop F))(e:B+1=v.length)(dg:∀d∈w,P d<=P (v.getD (v.length-1) 0)):
  gM P it v w ((b.map<|bb it).toArray++(w.map<|bb it).toArray.extract F (w.map<|bb it).toArray.size++(v.map<|bb it).toArray.extract B (v.map<|bb it).toArray.size):=by
 refine⟨b++w.drop F++v.drop B,?_,?_,?_⟩
 ·apply kg;simp[kG,qx]
 ·rw[bC];refine (perm.append_right _).trans ?_;have:(v.take B++w.take F++(w.drop F++v.drop B)).Perm ((v.take B++v.drop B)++(w.take F++w.drop F)):=by
   rw[bC,bC];refine ee _ ?_;rw[<-bC];exact dC
  rw[fV,fV]at this;exact this
 ·refine fs.mpr ⟨cv,DM aK,λd a y c=>?_⟩;rcases dt.mp a with a|a
  ·exact (fs.mp aK).2.2 d a y c
  ·let⟨@i,t,C,rfl⟩:=ke c;have:i=v.length-1:=⋯
   rw[this];exact dg d (nU a)
end
section
variable{Sz:bA}{l:bk}{O:bw}{Sv:ae->ao->Prop}{SS:gA}{it:Array bf}{P:Nat->Int}{p:Nat}{j:ao}
def GQ:Array bf->Array bf->StateT bz dR (Array bf):=(sortPriv% PySem.Builtin.mergeLo)
structure dv(u z:bz):Prop where
 k:kindOf z=kindOf u
 a:arrOf z=arrOf u
 p:hT z=hT u
 f:hA z=hA u
def dv.refl(z:bz):dv z z:=⟨rfl,rfl,rfl,rfl⟩
def hY{A SU:Type}{aA:hp}{H:StateT A dR SU}{D a:SU->A->ao->Prop}{z:A}{Sr:ao}(e:kasC aA O Sv H a z Sr)(M:∀g z Sr,a g z Sr->D g z Sr):kasC aA O Sv H D z Sr:=
 hl e (λu Sr d=>M u.1 u.2 Sr d) λ_ W c=>c
variable{k:List Nat}
def f7{a:Nat}(U:a<k.length){z:bz}{D:bf->bz->ao->Prop}(e:D (bb it<|k.getD a 0) z j):kasC (aS Sz l) O Sv (elem' (k.map<|bb it).toArray a) D z j:=by
 rw[u4,show ((k.map<|bb it).toArray)[a]?=Z (bb it<|k.getD a 0) by simp[List.getD,U]];exact bc e
def js(b:∀d∈k,d<p){a:Nat}(U:a<k.length):k.getD a 0<p:=by
 rw[cN,e4 U];exact b _ (Dh U)
def lD(k:List Nat)(a:Nat):k.toArray.getD a 0=k.getD a 0:=by simp[Array.getD,List.getD];split<;>simp_all
def x1(c:fO p P (ff Sz l O SS it) j){o:Nat}(h:o<p){k:List Nat}(m:∀d∈k,d<p){SA H b:Nat}(n:SA+H<=k.length)(q:b<H)(mono:∀a i,SA<=a->a<=i->i<SA+H->P (k.getD a 0)<=P (k.getD i 0)){z:bz}(r:kindOf z=SS){D:Option Nat->bz->ao->Prop}(e:∀u,u<=H->(∀a,SA<=a->a<SA+u->P (k.getD a 0)<=P o)->(∀a,SA+u<=a->a<SA+H->P o<P (k.getD a 0))->D (Z u) z j):
  kasC (aS Sz l) O Sv (pI ar (bb it o) (k.map<|bb it).toArray SA H b) D z j:=by
 rw[<-C8];refine Cu c h (λa U=>by rw[lD];exact js m ⇑U) ⇑n q (λa i w x s=>?_) r λu v g f=>e u v (λa t C=>?_) (λa t C=>?_)
 ·simp only[cM,lD,iL,gD,jo,k8,xQ]at s ⊢;have:=mono (SA+a) (SA+i) ⋯ ⋯ ⋯;lia
 ·have:=g (a-SA) ⋯;simp only[cM,lD,iL,gD,jo,k8,xQ]at this
  rwa [show SA+(a-SA)=a by lia]at this
 ·have:=f (a-SA) ⋯ ⋯;simp only[cM,lD,iL,gD,Bool.not_eq_false',yY]at this
  rwa [show SA+(a-SA)=a by lia]at this
def xe(c:fO p P (ff Sz l O SS it) j){o:Nat}(h:o<p){k:List Nat}(m:∀d∈k,d<p){SA H b:Nat}(n:SA+H<=k.length)(q:b<H)(mono:∀a i,SA<=a->a<=i->i<SA+H->P (k.getD a 0)<=P (k.getD i 0)){z:bz}(r:kindOf z=SS){D:Option Nat->bz->ao->Prop}(e:∀u,u<=H->(∀a,SA<=a->a<SA+u->P (k.getD a 0)<P o)->(∀a,SA+u<=a->a<SA+H->P o<=P (k.getD a 0))->D (Z u) z j):
  kasC (aS Sz l) O Sv (pI X (bb it o) (k.map<|bb it).toArray SA H b) D z j:=by
 rw[<-C8];refine Cu c h (λa U=>by rw[lD];exact js m ⇑U) ⇑n q (λa i w x s=>?_) r λu v g f=>e u v (λa t C=>?_) (λa t C=>?_)
 ·simp only[cM,lD,hx,yY]at s ⊢;have:=mono (SA+a) (SA+i) ⋯ ⋯ ⋯;lia
 ·have:=g (a-SA) ⋯;simp only[cM,lD,hx,yY]at this
  rwa [show SA+(a-SA)=a by lia]at this
 ·have:=f (a-SA) ⋯ ⋯;simp only[cM,lD,hx,k8,xQ]at this
  rwa [show SA+(a-SA)=a by lia]at this
def ps(b:List Nat)(y:Nat):(b.map<|bb it).toArray.push (bb it y)=((b++[y]).map<|bb it).toArray:=by simp
def z_(b k:List Nat)(a o:Nat):(b.map<|bb it).toArray++(k.map<|bb it).toArray.extract a (a+o)=((b++(k.drop a).take o).map<|bb it).toArray:=by
 apply kg;simp[kG,lA,qW]
end
section
variable{Sz:bA}{l:bk}{O:bw}{Sv:ae->ao->Prop}{SS:gA}{it:Array bf}{P:Nat->Int}{p:Nat}{j:ao}
def hN(P:Nat->Int)(it:Array bf)(v w:List Nat)(out:Array bf)(B F:Nat):Prop:=(∃b:List Nat,out=(b.map<|bb it).toArray/\JY P v w b B F)
variable{A SU:Type}
def Df{aA:hp}{O:bw}{Sv:ae->ao->Prop}{h:Nat->Prop}{b:∀M,Decidable (h M)}{g R:Nat->StateT A dR SU}{D:SU->A->ao->Prop}{z:A}{j:ao}(d:Nat->Nat)(a:∀M,g M=R (d M))(m:∀M,kasC aA O Sv (R M) D z j):∀M,kasC aA O Sv (if h M then g M else R M) D z j:=by
 intro M;rw[a];split
 ·exact m _
 ·exact m _
variable{h:Prop}
def tH{aA:hp}{O:bw}{Sv:ae->ao->Prop}{i:Decidable h}{b Tw:Array bf->Nat->StateT A dR SU}{D:SU->A->ao->Prop}{z:A}{j:ao}(c d:Array bf->Nat->Prop)(m:∀n a,d n a->kasC aA O Sv (Tw n a) D z j)(f:¬ h->∀n a,c n a->d n a)(g:(∀n a,d n a->kasC aA O Sv (Tw n a) D z j)->h->∀n a,c n a->kasC aA O Sv (b n a) D z j):∀n a,c n a->kasC aA O Sv (if h then b n a else Tw n a) D z j:=λn a q=>
 if e:h then by rw[aJ e];exact g m e n a q else by rw[aM e];exact m n a (f e n a q)
def Cv{aA:hp}{O:bw}{Sv:ae->ao->Prop}{x:bz->bz}{D:PUnit->bz->ao->Prop}{u z:bz}{j:ao}(b:dv u (x z))(e:∀a,dv u a->D ⟨⟩ a j):kasC aA O Sv (modify x:StateT bz dR PUnit) D z j:=km (e _ b)
def qK(P:Nat->Int)(it:Array bf)(v w:List Nat)(z:bz)(j:ao): Option (Array bf)×Array bf×Nat×Nat×Nat->bz->ao->Prop:=(λh b Sr=>j=Sr/\dv z b/\∃a q r u M,h=(Z a,q,r,u,M)/\gM P it v w a)
def qO(P:Nat->Int)(it:Array bf)(v w:List Nat)(z:bz)(j:ao)(d:Nat):Option (Array bf)×Array bf×Nat×Nat×Nat->bz->ao->Prop:=(λh a Sr=>j=Sr/\dv z a/\∃n B F M,h=(Y,n,B,F,M)/\hN P it v w n B F/\d+1<=B+F)
def ku(P:Nat->Int)(it:Array bf)(v w:List Nat)(z:bz)(j:ao)(d:Nat):Option (Array bf)×Array bf×Nat×Nat×Nat×Nat->bz->ao->Prop:=(λh c Sr=>j=Sr/\dv z c/\((∃b q r u ac a,h=(Z b,q,r,u,ac,a)/\gM P it v w b)\/∃n B F ac a,h=(Y,n,B,F,ac,a)/\hN P it v w n B F/\d+2<=B+F))
def pQ(P:Nat->Int)(it:Array bf)(v w:List Nat)(z:bz)(j:ao)(d y:Nat):Option (Array bf)×Array bf×Nat×Nat×Nat×Nat->bz->ao->Prop:=(λh a Sr=>j=Sr/\dv z a/\∃n B F ac b,h=(Y,n,B,F,ac,b)/\hN P it v w n B F/\d+1+y<=B+F)
def jl(P:Nat->Int)(it:Array bf)(v w:List Nat)(z:bz)(j:ao)(d:Nat):Option (Array bf)×Array bf×Nat×Nat×Nat×Nat×Nat->bz->ao->Prop:=(λh c Sr=>j=Sr/\dv z c/\((∃b q r u M ac a,h=(Z b,q,r,u,M,ac,a)/\gM P it v w b)\/∃n B F M ac a,h=(Y,n,B,F,M,ac,a)/\hN P it v w n B F/\d+2<=B+F))
def rq(P:Nat->Int)(it:Array bf)(v w:List Nat)(z:bz)(j:ao)(d y:Nat):Option (Array bf)×Array bf×Nat×Nat×Nat×Nat×Nat->bz->ao->Prop:=(λh a Sr=>j=Sr/\dv z a/\∃n B F M ac b,h=(Y,n,B,F,M,ac,b)/\hN P it v w n B F/\d+2<=B+F)
def qK.a{P:Nat->Int}{it:Array bf}{v w:List Nat}{z b:bz}{j:ao}{out:Array bf}{q:Array bf}{r u:Nat}{M:Nat}(e:dv z b)(H:gM P it v w out):qK P it v w z j (Z out,q,r,u,M) b j:=⟨rfl,e,_,_,_,_,_,rfl,H⟩
def qO.k{P:Nat->Int}{it:Array bf}{v w:List Nat}{z a:bz}{j:ao}{d:Nat}{n:Array bf}{B F:Nat}{M:Nat}(e:dv z a)(i:hN P it v w n B F)(c:d+1<=B+F):qO P it v w z j d (Y,n,B,F,M) a j:=⟨rfl,e,_,_,_,_,rfl,i,c⟩
def ku.a{P:Nat->Int}{it:Array bf}{v w:List Nat}{z b:bz}{j:ao}{d:Nat}{out:Array bf}{q:Array bf}{r u:Nat}{M c:Nat}(e:dv z b)(H:gM P it v w out):ku P it v w z j d (Z out,q,r,u,M,c) b j:=⟨rfl,e,.inl ⟨_,_,_,_,_,_,rfl,H⟩⟩
def ku.b{P:Nat->Int}{it:Array bf}{v w:List Nat}{z a:bz}{j:ao}{d:Nat}{n:Array bf}{B F:Nat}{M g:Nat}(e:dv z a)(i:hN P it v w n B F)(c:d+2<=B+F):ku P it v w z j d (Y,n,B,F,M,g) a j:=⟨rfl,e,.inr ⟨_,_,_,_,_,rfl,i,c⟩⟩
def pQ.k{P:Nat->Int}{it:Array bf}{v w:List Nat}{z a:bz}{j:ao}{d y:Nat}{n:Array bf}{B F:Nat}{M b:Nat}(e:dv z a)(i:hN P it v w n B F)(c:d+1+y<=B+F):pQ P it v w z j d y (Y,n,B,F,M,b) a j:=⟨rfl,e,_,_,_,_,_,rfl,i,c⟩
def jl.a{P:Nat->Int}{it:Array bf}{v w:List Nat}{z b:bz}{j:ao}{d:Nat}{out:Array bf}{q:Array bf}{r u:Nat}{M c f:Nat}(e:dv z b)(H:gM P it v w out):jl P it v w z j d (Z out,q,r,u,M,c,f) b j:=⟨rfl,e,.inl ⟨_,_,_,_,_,_,_,rfl,H⟩⟩
def jl.b{P:Nat->Int}{it:Array bf}{v w:List Nat}{z a:bz}{j:ao}{d:Nat}{n:Array bf}{B F:Nat}{M g h:Nat}(e:dv z a)(i:hN P it v w n B F)(c:d+2<=B+F):jl P it v w z j d (Y,n,B,F,M,g,h) a j:=⟨rfl,e,.inr ⟨_,_,_,_,_,_,rfl,i,c⟩⟩
def rq.k{P:Nat->Int}{it:Array bf}{v w:List Nat}{z a:bz}{j:ao}{d y:Nat}{n:Array bf}{B F:Nat}{M b f:Nat}(e:dv z a)(i:hN P it v w n B F)(c:d+2<=B+F):rq P it v w z j d y (Y,n,B,F,M,b,f) a j:=⟨rfl,e,_,_,_,_,_,_,rfl,i,c⟩
def OJ{g f:Nat}(e:g=f):(g==f)=X:=by simp[e]
def M3{g f:Nat}(e:¬ g=f):¬ (g==f)=X:=by simp[e]
def k3{aA:hp}{O:bw}{Sv:ae->ao->Prop}{g:Nat}{k:List Nat}{d y:StateT A dR SU}{D:SU->A->ao->Prop}{z:A}{j:ao}(a:g=k.length->kasC aA O Sv d D z j)(b:¬ g=k.length->kasC aA O Sv y D z j):kasC aA O Sv (if (g==(List.map (bb it) k).toArray.size)=X then d else y) D z j:=by
 rw[show (List.map (bb it) k).toArray.size=k.length by simp];by_cases e:g=k.length
 ·rw[aJ (OJ e)];exact a e
 ·rw[aM (M3 e)];exact b e
def k1{aA:hp}{O:bw}{Sv:ae->ao->Prop}{c:Decidable h}{d y:StateT A dR SU}{D:SU->A->ao->Prop}{z:A}{j:ao}(a:h->kasC aA O Sv d D z j)(b:¬ h->kasC aA O Sv y D z j):kasC aA O Sv (if h then d else y) D z j:=if e:h then by rw[aJ e];exact a e else by rw[aM e];exact b e
def M6(b:fO p P (ff Sz l O SS it) j){o:Nat}(c:o<p){k:List Nat}(m:∀d∈k,d<p){SA:Nat}(r:SA<k.length)(mono:∀a i,SA<=a->a<=i->i<k.length->P (k.getD a 0)<=P (k.getD i 0)){z:bz}(n:kindOf z=SS){D:Option Nat->bz->ao->Prop}(e:∀u,SA+u<=k.length->(∀a,SA<=a->a<SA+u->P (k.getD a 0)<=P o)->(∀a,SA+u<=a->a<k.length->P o<P (k.getD a 0))->D (Z u) z j):
  kasC (aS Sz l) O Sv (pI ar (bb it o) (k.map<|bb it).toArray SA ((k.map<|bb it).toArray.size-SA) 0) D z j:=by
 rw[show (k.map<|bb it).toArray.size=k.length by simp];exact x1 b c m ⋯ ⋯ (λa i g f h=>mono a i g f ⋯) n λu t C q=>e u ⋯ C λa g f=>q a g ⋯
def K6(b:fO p P (ff Sz l O SS it) j){o:Nat}(c:o<p){k:List Nat}(m:∀d∈k,d<p){SA:Nat}(r:SA<k.length)(mono:∀a i,SA<=a->a<=i->i<k.length->P (k.getD a 0)<=P (k.getD i 0)){z:bz}(n:kindOf z=SS){D:Option Nat->bz->ao->Prop}(e:∀u,SA+u<=k.length->(∀a,SA<=a->a<SA+u->P (k.getD a 0)<P o)->(∀a,SA+u<=a->a<k.length->P o<=P (k.getD a 0))->D (Z u) z j):
  kasC (aS Sz l) O Sv (pI X (bb it o) (k.map<|bb it).toArray SA ((k.map<|bb it).toArray.size-SA) 0) D z j:=by
 rw[show (k.map<|bb it).toArray.size=k.length by simp];exact xe b c m ⋯ ⋯ (λa i g f h=>mono a i g f ⋯) n λu t C q=>e u ⋯ C λa g f=>q a g ⋯
def KG(bi:fO p P (ff Sz l O SS it) j){v w:List Nat}(bm:∀d∈v,d<p)(bn:∀d∈w,d<p)(fn:cp P v)(fr:cp P w)(hw:0<v.length)(t:0<w.length)(first:∀d∈v,P (w.getD 0 0)<=P d)(dg:∀d∈w,P d<=P (v.getD (v.length-1) 0)){z:bz}(ci:kindOf z=SS){D:Array bf->bz->ao->Prop}(e:∀out E,gM P it v w out->dv z E->D out E j):
  kasC (aS Sz l) O Sv (GQ (v.map<|bb it).toArray (w.map<|bb it).toArray) D z j:=by
 have bs:[w.getD 0 0].Perm (v.take 0++w.take 1):=by
  have:=j4 (k:=w) (a:=0) t;simp only[lu]at this;rw[this];exact List.Perm.refl _
 have bv:cp P ([w.getD 0 0]++w.drop 1):=by
  have:=j4 (k:=w) (a:=0) t;simp only[lu]at this;rw[<-this,fV];exact fr
 have ca:cp P ([w.getD 0 0]++v.drop 0):=fs.mpr ⟨ep _ _,by rw[lu];exact fn,λd r y s=>by
  rw[cA.mp r];exact first y (by rwa [lu]at s)⟩
 have h0:(List.map (bb it) v).toArray.size=v.length:=by simp
 have ii:(List.map (bb it) w).toArray.size=w.length:=by simp
 unfold GQ;with_unfolding_all refine bh (nc<|h7 ?_);refine bh (f7 t ?_);refine k3 (λcl=>bc<|e _ _ (r_ bs ca bv<|.inl cl)<|dv.refl z) λcl=>?_;refine k3 (λco=>bc<|e _ _ (uk bs ca bv co dg)<|dv.refl z) λco=>?_;refine bh (j6 ?_);refine bh (hY (a:=qK P it v w z j) (fI (gC (qO P it v w z j) ?step _ 0 _ _ _ ?fin (qO.k (dv.refl z) ⟨_,rfl,bs,ca,bv,⋯,⋯⟩ ⋯))) ?after)
 case after=>
  rintro h E Sr ⟨rfl,c,cs,n,B,F,M,rfl,an⟩;exact bc (e _ _ an c)
 case fin=>
  rintro h E Sr ⟨rfl,c,n,B,F,M,rfl,⟨b,rfl,H⟩,r⟩;have:=H.bU;have:=H.jI;lia
 case step=>
  rintro d h E Sr ⟨rfl,c,n,B,F,M,rfl,G,r⟩;refine bh (hY (a:=ku P it v w z j d)
   (fI (gC (pQ P it v w z j d) ?f0 _ 0 _ _ _ ?f4 (pQ.k c G ⋯))) ?f8)
  case f4=>
   rintro h E Sr ⟨rfl,c,n,B,F,ac,T,rfl,G,r⟩;exact ku.b c G ⋯
  case f0=>
   rintro y h E Sr ⟨rfl,c,n,B,F,ac,T,rfl,⟨b,rfl,H⟩,r⟩;have ap:=H.bU;have A:=H.jI;have bd:kindOf E=SS:=c.k.trans ci;have C:B<v.length:=⋯
   have dp:P (w.getD F 0)<P (v.getD B 0)->(b++[w.getD F 0]).Perm (v.take B++w.take (F+1))/\cp P (b++[w.getD F 0]++v.drop B)/\cp P (b++[w.getD F 0]++w.drop (F+1)):=λas=>by
    have:=v5 1 H.perm H.aK H.cv (λd r y s=>by
     rw[j4 A,cA]at r;let⟨@i,J,U,rfl⟩:=ke s;have:=od H.aK (bl _) J U;rw[r];lia)
    rwa [j4 A]at this
   have di:¬ P (w.getD F 0)<P (v.getD B 0)->(b++[v.getD B 0]).Perm (v.take (B+1)++w.take F)/\cp P (b++[v.getD B 0]++v.drop (B+1))/\cp P (b++[v.getD B 0]++w.drop F):=λas=>by
    have:=vt 1 H.perm H.aK H.cv (λd r y s=>by
     rw[j4 C,cA]at r;let⟨@i,J,U,rfl⟩:=ke s;have:=od H.cv (bl _) J U;rw[r];lia)
    rwa [j4 C]at this
   refine bh (f7 A<|bh<|f7 C<|bh<|q4 bi (js bn A) (js bm C) bd ?_);refine k1 (λas=>?_) λas=>?_
   ·have f:=dp ⇑as;refine bh (f7 A (k3 (λN=>bc (ku.a c (by rw[ps];exact r_ f.1 f.2.1 f.2.2 (.inl N)))) λN=>?_));have Q:hN P it v w ((b.map<|bb it).toArray.push<|bb it<|w.getD F 0) B (F+1):=⟨_,ps _ _,f.1,f.2.1,f.2.2,ap,⋯⟩;exact k1 (λ_=>bc (ku.b c Q ⋯)) λ_=>bc (pQ.k c Q ⋯)
   ·have f:=di ⇑as;refine bh (f7 C (k3 (λN=>bc (ku.a c (by rw[ps];exact uk f.1 f.2.1 f.2.2 N dg))) λN=>?_));have Q:hN P it v w ((b.map<|bb it).toArray.push<|bb it<|v.getD B 0) (B+1) F:=⟨_,ps _ _,f.1,f.2.1,f.2.2,⋯,A⟩;exact k1 (λ_=>bc (ku.b c Q ⋯)) λ_=>bc (pQ.k c Q ⋯)
  case f8=>
   rintro h E Sr ⟨rfl,c,⟨cs,n,B,F,ac,T,rfl,an⟩|⟨n,B,F,ac,T,rfl,G,r⟩⟩
   ·exact bc (qK.a c an)
   ·refine bh (nc<|h7 ?_);refine bh (hY (a:=jl P it v w z j d)
     (fI (gC (rq P it v w z j d) ?ga _ 0 _ _ _ ?fin2 (rq.k c G ⋯))) ?ge)
    case fin2=>
     rintro h E Sr ⟨rfl,c,n,B,F,M,ac,T,rfl,G,r⟩;exact jl.b c G ⋯
    case ge=>
     rintro h E Sr ⟨rfl,c,⟨cs,n,B,F,M,ac,T,rfl,an⟩|⟨n,B,F,M,ac,T,rfl,G,r⟩⟩
     ·exact bc (qK.a c an)
     ·refine bh (km ?_);exact bc (qO.k ⟨c.k,c.a,c.p,c.f⟩ G ⋯)
    case ga=>
     rintro y h E Sr ⟨rfl,c,n,B,F,M,ac,T,rfl,⟨b,db,H⟩,r⟩;have ap:=H.bU;have A:=H.jI;dsimp only;revert M;refine Df (λM=>M-1) ?C ?_
     case C=>exact λM=>rfl
     intro M;refine bh (Cv (u:=z) ⟨c.k,c.a,c.p,c.f⟩ λim S=>?_);have bd:=S.k.trans ci;refine bh (f7 A ?_);refine bh (M6 bi (js bn A) bm (show B<v.length by lia) (λa i g f h=>od H.aK g f h) bd ?_);intro o io gl ds;dsimp only;generalize a1:n=S7;generalize a2:B=a;have R:S7=n/\a=B:=⟨a1.symm,a2.symm⟩;clear a1 a2;revert S7 a;refine tH (λS7 a=>S7=n/\a=B) (λS7 a=>hN P it v w S7 a F/\B<=a/\∀i,a<=i->i<v.length->P (w.getD F 0)<P (v.getD i 0)) ?SD ?f1 ?go
     case f1=>
      rintro gt S7 a ⟨rfl,rfl⟩;exact⟨⟨b,db,H⟩,bl _,λi g f=>ds i ⋯ f⟩
     case go=>
      rintro m _ S7 a ⟨rfl,rfl⟩;try dsimp only
      have L:=vt o H.perm H.aK H.cv (λd r y s=>by
       let⟨@i,g1,J,rfl⟩:=pM r;let⟨@g2,cd,ce,rfl⟩:=ke s;have:=gl (a+i) ⋯ ⋯;have:=od H.cv (bl _) cd ce;lia)
      rw[db,z_];refine k3 (λN=>bc<|jl.a S<|uk L.1 L.2.1 L.2.2 N dg) λN=>?_;refine k3 (λdL=>bc<|jl.a S<|r_ L.1 L.2.1 L.2.2<|.inr dL) λdL=>?_;exact m _ _ ⟨⟨_,rfl,L.1,L.2.1,L.2.2,⋯,A⟩,⋯,λi g f=>ds i g f⟩
     case SD=>
      rintro S7 a ⟨⟨b,rfl,H⟩,le,g3⟩;have ap:=H.bU;try dsimp only
      refine bh (f7 A ?_);have Tj:=v5 1 H.perm H.aK H.cv (λd r y s=>by
       rw[j4 A,cA]at r;let⟨@i,J,U,rfl⟩:=ke s;have:=g3 i J U;rw[r];lia)
      rw[j4 A]at Tj;rw[ps];refine k3 (λeq=>bc<|jl.a S<|r_ Tj.1 Tj.2.1 Tj.2.2<|.inl eq) λeq=>?_;have C:a<v.length:=⋯
      refine bh (f7 C ?_);refine bh (K6 bi (js bm C) bn (show F+1<w.length by lia) (λa i g f h=>od Tj.2.2 g f h) bd ?_);intro S8 jp hd ev;dsimp only;generalize b++[w.getD F 0]=ch at *;generalize kt:F+1=be at *;generalize a1:(List.map (bb it) ch).toArray=S7;generalize a2:be=i;have R:S7=(List.map (bb it) ch).toArray/\i=be:=⟨a1.symm,a2.symm⟩;clear a1 a2;revert S7 i;refine tH (λS7 i=>S7=(List.map (bb it) ch).toArray/\i=be) (λS7 i=>hN P it v w S7 a i/\be<=i/\∀I,i<=I->I<w.length->P (v.getD a 0)<=P (w.getD I 0)) ?SP ?f2 ?he
      case f2=>
       rintro gt S7 i ⟨rfl,rfl⟩;exact⟨⟨_,rfl,Tj.1,Tj.2.1,Tj.2.2,ap,⋯⟩,bl _,λI g f=>ev I ⋯ f⟩
      case he=>
       rintro m _ S7 i ⟨rfl,rfl⟩;try dsimp only
       have am:=v5 S8 Tj.1 Tj.2.1 Tj.2.2 (λd r y s=>by
        let⟨@I,g1,J,rfl⟩:=pM r;let⟨@g2,cd,ce,rfl⟩:=ke s;have:=hd (i+I) ⋯ ⋯;have:=od Tj.2.1 (bl _) cd ce;lia)
       rw[z_];refine k3 (λex=>bc<|jl.a S<|r_ am.1 am.2.1 am.2.2<|.inl ex) λex=>?_;exact m _ _ ⟨⟨_,rfl,am.1,am.2.1,am.2.2,ap,⋯⟩,⋯,λI g f=>ev I g f⟩
      case SP=>
       rintro S7 i ⟨⟨b,rfl,H⟩,kw,hf⟩;have hm:=H.jI;try dsimp only
       refine bh (f7 C ?_);have al:=vt 1 H.perm H.aK H.cv (λd r y s=>by
        rw[j4 C,cA]at r;let⟨@I,J,U,rfl⟩:=ke s;rw[r];exact hf I J U)
       rw[j4 C]at al;rw[ps];refine k3 (λfd=>bc<|jl.a S<|uk al.1 al.2.1 al.2.2 fd dg) λfd=>?_;have Q:hN P it v w ((b++[v.getD a 0]).map<|bb it).toArray (a+1) i:=⟨_,rfl,al.1,al.2.1,al.2.2,⋯,hm⟩;exact k1 (λ_=>bc (jl.b S Q ⋯)) λ_=>bc (rq.k S Q ⋯)
end
section
variable{Sz:bA}{l:bk}{O:bw}{Sv:ae->ao->Prop}{SS:gA}{it:Array bf}{P:Nat->Int}{p:Nat}{j:ao}
def D3:Array bf->Array bf->StateT bz dR (Array bf):=(sortPriv% PySem.Builtin.mergeHi)
variable{k:List Nat}{a i:Nat}
def wH(b:a<=i)(d:i<=k.length):k.drop a=(k.take i).drop a++k.drop i:=by
 have c:k.drop a=(k.take i++k.drop i).drop a:=by rw[fV]
 rw[c,List.drop_append_of_le_length (by rw[hy];lia)]
def Ko(b:a<=i):k.take a++(k.take i).drop a=k.take i:=by
 have:=fV a (k.take i)
 rwa [tL,qw b]at this
variable{v w z:List Nat}{A E:Nat}
def vo(o:Nat)(f:o<=A)(h:A<=v.length)(perm:z.Perm (v.drop A++w.drop E))(aK:cp P (v.take A++z))(cv:cp P (w.take E++z))(e:∀d∈(v.take A).drop o,∀y∈w.take E,P y<=P d):
  ((v.take A).drop o++z).Perm (v.drop o++w.drop E)/\cp P (v.take o++((v.take A).drop o++z))/\cp P (w.take E++((v.take A).drop o++z)):=by
 refine⟨?_,?_,?_⟩
 ·rw[wH f h,bC];exact ee _ perm
 ·rw[<-bC,Ko f];exact aK
 ·have g:=fs.mp aK;have c:=fs.mp cv;refine fs.mpr ⟨c.1,fs.mpr ⟨g.1.sublist<|zd _ _,c.2.1,λd b y a=>g.2.2 d (nU b) y a⟩,λd b y a=>?_⟩;rcases dt.mp a with a|a
  ·exact e y a d b
  ·exact c.2.2 d b y a
def zo(o:Nat)(a:o<=E)(b:E<=w.length)(perm:z.Perm (v.drop A++w.drop E))(aK:cp P (v.take A++z))(cv:cp P (w.take E++z))(e:∀d∈(w.take E).drop o,∀y∈v.take A,P y<=P d):
  ((w.take E).drop o++z).Perm (v.drop A++w.drop o)/\cp P (v.take A++((w.take E).drop o++z))/\cp P (w.take o++((w.take E).drop o++z)):=by
 have:=vo (v:=w) (w:=v) o a b (perm.trans dC) cv aK e;exact⟨this.1.trans dC,this.2.2,this.2.1⟩
def lI(b:0<a)(e:a<=k.length):(k.take a).drop (a-1)=[k.getD (a-1) 0]:=by
 rw[qW,show a-(a-1)=1 by lia];exact j4 ⋯
variable{y:Nat}
def lz(e:y∈k.take a):∃i,i<a/\i<k.length/\y=k.getD i 0:=by
 have:=pM (a:=0) (o:=a) (y:=y) (k:=k) (by rwa [lu]);let⟨@i,g,f,c⟩:=this;exact⟨i,g,⋯,by rw[c];congr 1;lia⟩
variable{o:Nat}
def zK(e:y∈(k.take o).drop a):∃i,a<=i/\i<o/\i<k.length/\y=k.getD i 0:=by
 rw[qW]at e;let⟨@i,g,f,c⟩:=pM e;exact⟨a+i,⋯,⋯,f,c⟩
def pq(e:cp P (k.take a++z))(b:i<=o)(c:o<a)(d:o<k.length):P (k.getD i 0)<=P (k.getD o 0):=by
 have:=nG (fs.mp e).1 (a:=i) (i:=o) b (by rw[hy];lia);simpa [List.getD,n7,show i<a by lia,c] using this
def qo(perm:z.Perm (v.drop A++w.drop E))(aK:cp P (v.take A++z))(cv:cp P (w.take E++z))(a:A=0\/E=0):
  gM P it v w ((v.map<|bb it).toArray.extract 0 A++(w.map<|bb it).toArray.extract 0 E++(z.reverse.map<|bb it).toArray.reverse):=by
 refine⟨v.take A++w.take E++z,?_,?_,?_⟩
 ·apply kg;simp[lA]
 ·refine (ee _ perm).trans ?_;have:(v.take A++w.take E++(v.drop A++w.drop E)).Perm ((v.take A++v.drop A)++(w.take E++w.drop E)):=by
   rw[bC,bC];refine ee _ ?_;rw[<-bC,<-bC];exact fq _ dC
  rw[fV,fV]at this;exact this
 ·rcases a with c|c
  ·rw[c,ue,nF];exact cv
  ·rw[c,ue,cB];exact aK
def tR(perm:z.Perm (v.drop A++w.drop E))(aK:cp P (v.take A++z))(cv:cp P (w.take E++z))(c:E=1)(first:∀d∈v,P (w.getD 0 0)<=P d):
  gM P it v w ((w.map<|bb it).toArray.extract 0 E++(v.map<|bb it).toArray.extract 0 A++(z.reverse.map<|bb it).toArray.reverse):=by
 refine⟨w.take E++v.take A++z,?_,?_,?_⟩
 ·apply kg;simp[lA]
 ·refine (ee _ perm).trans ?_;have:(w.take E++v.take A++(v.drop A++w.drop E)).Perm ((v.take A++v.drop A)++(w.take E++w.drop E)):=by
   rw[bC,<-bC (v.take A),<-bC (v.take A++v.drop A)];rw[<-bC (w.take E)];exact fq _ dC
  rw[fV,fV]at this;exact this
 ·rw[bC];refine fs.mpr ⟨(fs.mp cv).1,aK,λd b y a=>?_⟩;rcases dt.mp a with a|a
  ·let⟨@i,t,C,rfl⟩:=lz b;have:i=0:=⋯
   rw[this];exact first y (oB a)
  ·exact (fs.mp cv).2.2 d b y a
def oz(z:List Nat)(y:Nat):(z.reverse.map<|bb it).toArray.push (bb it y)=(([y]++z).reverse.map<|bb it).toArray:=by simp
def zU(z k:List Nat)(a o:Nat):(z.reverse.map<|bb it).toArray++((k.map<|bb it).toArray.extract a o).reverse=(((k.take o).drop a++z).reverse.map<|bb it).toArray:=by
 apply kg;simp[kG,lA,qW]
structure QK(P:Nat->Int)(v w:List Nat)(z:List Nat)(A E:Nat):Prop where
 perm:z.Perm (v.drop A++w.drop E)
 aK:cp P (v.take A++z)
 cv:cp P (w.take E++z)
 bU:0<A
 jI:1<E
 x5:A<=v.length
 xo:E<=w.length
def hH(P:Nat->Int)(it:Array bf)(v w:List Nat)(out:Array bf)(A E:Nat):Prop:=(∃z:List Nat,out=(z.reverse.map<|bb it).toArray/\QK P v w z A E)
end
section
variable{Sz:bA}{l:bk}{O:bw}{Sv:ae->ao->Prop}{SS:gA}{it:Array bf}{P:Nat->Int}{p:Nat}{j:ao}
def rU(P:Nat->Int)(it:Array bf)(v w:List Nat)(z:bz)(j:ao): Option (Array bf)×Nat×Nat×Array bf×Nat->bz->ao->Prop:=(λh b Sr=>j=Sr/\dv z b/\∃a q r u M,h=(Z a,q,r,u,M)/\gM P it v w a)
def qT(P:Nat->Int)(it:Array bf)(v w:List Nat)(z:bz)(j:ao)(d:Nat):Option (Array bf)×Nat×Nat×Array bf×Nat->bz->ao->Prop:=(λh a Sr=>j=Sr/\dv z a/\∃A E n M,h=(Y,A,E,n,M)/\hH P it v w n A E/\A+E+d+1<=v.length+w.length)
def kN(P:Nat->Int)(it:Array bf)(v w:List Nat)(z:bz)(j:ao)(d:Nat):Option (Array bf)×Nat×Nat×Array bf×Nat×Nat->bz->ao->Prop:=(λh c Sr=>j=Sr/\dv z c/\((∃b q r u ac a,h=(Z b,q,r,u,ac,a)/\gM P it v w b)\/∃A E n ac a,h=(Y,A,E,n,ac,a)/\hH P it v w n A E/\A+E+d+2<=v.length+w.length))
def pG(P:Nat->Int)(it:Array bf)(v w:List Nat)(z:bz)(j:ao)(d y:Nat):Option (Array bf)×Nat×Nat×Array bf×Nat×Nat->bz->ao->Prop:=(λh a Sr=>j=Sr/\dv z a/\∃A E n ac b,h=(Y,A,E,n,ac,b)/\hH P it v w n A E/\A+E+d+1+y<=v.length+w.length)
def ju(P:Nat->Int)(it:Array bf)(v w:List Nat)(z:bz)(j:ao)(d:Nat):Option (Array bf)×Nat×Nat×Array bf×Nat×Nat×Nat->bz->ao->Prop:=(λh c Sr=>j=Sr/\dv z c/\((∃b q r u M ac a,h=(Z b,q,r,u,M,ac,a)/\gM P it v w b)\/∃A E n M ac a,h=(Y,A,E,n,M,ac,a)/\hH P it v w n A E/\A+E+d+2<=v.length+w.length))
def rW(P:Nat->Int)(it:Array bf)(v w:List Nat)(z:bz)(j:ao)(d y:Nat):Option (Array bf)×Nat×Nat×Array bf×Nat×Nat×Nat->bz->ao->Prop:=(λh a Sr=>j=Sr/\dv z a/\∃A E n M ac b,h=(Y,A,E,n,M,ac,b)/\hH P it v w n A E/\A+E+d+2<=v.length+w.length)
def rU.a{P:Nat->Int}{it:Array bf}{v w:List Nat}{z b:bz}{j:ao}{out:Array bf}{q r:Nat}{u:Array bf}{M:Nat}(e:dv z b)(H:gM P it v w out):rU P it v w z j (Z out,q,r,u,M) b j:=⟨rfl,e,_,_,_,_,_,rfl,H⟩
def qT.k{P:Nat->Int}{it:Array bf}{v w:List Nat}{z a:bz}{j:ao}{d:Nat}{A E:Nat}{n:Array bf}{M:Nat}(e:dv z a)(i:hH P it v w n A E)(c:A+E+d+1<=v.length+w.length):qT P it v w z j d (Y,A,E,n,M) a j:=⟨rfl,e,_,_,_,_,rfl,i,c⟩
def kN.a{P:Nat->Int}{it:Array bf}{v w:List Nat}{z b:bz}{j:ao}{d:Nat}{out:Array bf}{q r:Nat}{u:Array bf}{M c:Nat}(e:dv z b)(H:gM P it v w out):kN P it v w z j d (Z out,q,r,u,M,c) b j:=⟨rfl,e,.inl ⟨_,_,_,_,_,_,rfl,H⟩⟩
def kN.b{P:Nat->Int}{it:Array bf}{v w:List Nat}{z a:bz}{j:ao}{d:Nat}{A E:Nat}{n:Array bf}{M g:Nat}(e:dv z a)(i:hH P it v w n A E)(c:A+E+d+2<=v.length+w.length):kN P it v w z j d (Y,A,E,n,M,g) a j:=⟨rfl,e,.inr ⟨_,_,_,_,_,rfl,i,c⟩⟩
def pG.k{P:Nat->Int}{it:Array bf}{v w:List Nat}{z a:bz}{j:ao}{d y:Nat}{A E:Nat}{n:Array bf}{M b:Nat}(e:dv z a)(i:hH P it v w n A E)(c:A+E+d+1+y<=v.length+w.length):pG P it v w z j d y (Y,A,E,n,M,b) a j:=⟨rfl,e,_,_,_,_,_,rfl,i,c⟩
def ju.a{P:Nat->Int}{it:Array bf}{v w:List Nat}{z b:bz}{j:ao}{d:Nat}{out:Array bf}{q r:Nat}{u:Array bf}{M c f:Nat}(e:dv z b)(H:gM P it v w out):ju P it v w z j d (Z out,q,r,u,M,c,f) b j:=⟨rfl,e,.inl ⟨_,_,_,_,_,_,_,rfl,H⟩⟩
def ju.b{P:Nat->Int}{it:Array bf}{v w:List Nat}{z a:bz}{j:ao}{d:Nat}{A E:Nat}{n:Array bf}{M g h:Nat}(e:dv z a)(i:hH P it v w n A E)(c:A+E+d+2<=v.length+w.length):ju P it v w z j d (Y,A,E,n,M,g,h) a j:=⟨rfl,e,.inr ⟨_,_,_,_,_,_,rfl,i,c⟩⟩
def rW.k{P:Nat->Int}{it:Array bf}{v w:List Nat}{z a:bz}{j:ao}{d y:Nat}{A E:Nat}{n:Array bf}{M b f:Nat}(e:dv z a)(i:hH P it v w n A E)(c:A+E+d+2<=v.length+w.length):rW P it v w z j d y (Y,A,E,n,M,b,f) a j:=⟨rfl,e,_,_,_,_,_,_,rfl,i,c⟩
def lJ{aA:hp}{O:bw}{Sv:ae->ao->Prop}{A SU:Type}{g f:Nat}{d y:StateT A dR SU}{D:SU->A->ao->Prop}{z:A}{j:ao}(a:g=f->kasC aA O Sv d D z j)(b:¬ g=f->kasC aA O Sv y D z j):kasC aA O Sv (if (g==f)=X then d else y) D z j:=k1 (λe=>a ⇑e) λe=>b ⇑e
def H4(cd:fO p P (ff Sz l O SS it) j){v w:List Nat}(ce:∀d∈v,d<p)(ch:∀d∈w,d<p)(ge:cp P v)(gl:cp P w)(go:0<v.length)(t:0<w.length)(first:∀d∈v,P (w.getD 0 0)<=P d)(dg:∀d∈w,P d<=P (v.getD (v.length-1) 0)){z:bz}(eq:kindOf z=SS){D:Array bf->bz->ao->Prop}(e:∀out C,gM P it v w out->dv z C->D out C j):
  kasC (aS Sz l) O Sv (D3 (v.map<|bb it).toArray (w.map<|bb it).toArray) D z j:=by
 have bs:(List.map (bb it) v).toArray.size=v.length:=by simp
 have bv:(List.map (bb it) w).toArray.size=w.length:=by simp
 have aX:=lI go (bl _);rw[ru]at aX;have ci:[v.getD (v.length-1) 0].Perm (v.drop (v.length-1)++w.drop w.length):=by
  rw[aX,wt];exact List.Perm.refl _
 have cl:cp P (v.take (v.length-1)++[v.getD (v.length-1) 0]):=by
  rw[<-aX,fV];exact ge
 have co:cp P (w.take w.length++[v.getD (v.length-1) 0]):=fs.mpr ⟨by rw[ru];exact gl,ep _ _,λd r y s=>by
  rw[cA.mp s];exact dg d (by rwa [ru]at r)⟩
 unfold D3;with_unfolding_all refine bh (nc<|h7 ?_);refine bh (f7 (show (List.map (bb it) v).toArray.size-1<v.length by lia) ?_);refine lJ (λcr=>bc (e _ _ (by rw[bs]at cr;rw[bs,bv];exact qo ci cl co (.inl cr))<|dv.refl z)) λcr=>?_;refine lJ (λcs=>bc (e _ _ (by rw[bv]at cs;rw[bs,bv];exact tR ci cl co cs first)<|dv.refl z)) λcs=>?_;refine bh (j6 ?_);refine bh (hY (a:=rU P it v w z j) (fI (gC (qT P it v w z j) ?step _ 0 _ _ _ ?fin (qT.k (dv.refl z) (by rw[bs,bv];exact⟨_,rfl,ci,cl,co,⋯,⋯,⋯,⋯⟩) ⋯))) ?after)
 case after=>
  rintro h C Sr ⟨rfl,c,ex,n,B,F,M,rfl,a2⟩;exact bc (e _ _ a2 c)
 case fin=>
  rintro h C Sr ⟨rfl,c,A,E,n,M,rfl,⟨b,rfl,H⟩,r⟩;have:=H.bU;have:=H.jI;lia
 case step=>
  rintro d h C Sr ⟨rfl,c,A,E,n,M,rfl,J,r⟩;refine bh (hY (a:=kN P it v w z j d)
   (fI (gC (pG P it v w z j d) ?gt _ 0 _ _ _ ?g1 (pG.k c J ⋯))) ?g2)
  case g1=>
   rintro h C Sr ⟨rfl,c,A,E,n,ac,am,rfl,J,r⟩;exact kN.b c J ⋯
  case gt=>
   rintro y h C Sr ⟨rfl,c,A,E,n,ac,am,rfl,⟨b,rfl,H⟩,r⟩;have L:=H.bU;have db:=H.jI;have G:=H.x5;have N:=H.xo;have ca:kindOf C=SS:=c.k.trans eq;have Q:A-1<v.length:=⋯
   have an:E-1<w.length:=⋯
   have dp:P (w.getD (E-1) 0)<P (v.getD (A-1) 0)->_:=λbd=>by
    have:=vo (A-1) ⋯ G H.perm H.aK H.cv (λd r y s=>by
     rw[lI L G,cA]at r;let⟨@i,ap,be,rfl⟩:=lz s;have:=pq H.cv (show i<=E-1 by lia) ⋯ ⋯;rw[r];lia)
    rw[lI L G]at this;exact this
   have di:¬ P (w.getD (E-1) 0)<P (v.getD (A-1) 0)->_:=λbd=>by
    have:=zo (E-1) ⋯ N H.perm H.aK H.cv (λd r y s=>by
     rw[lI ⋯ N,cA]at r;let⟨@i,ap,be,rfl⟩:=lz s;have:=pq H.aK (show i<=A-1 by lia) ⋯ ⋯;rw[r];lia)
    rw[lI ⋯ N]at this;exact this
   refine bh (f7 an<|bh<|f7 Q<|bh<|q4 cd (js ch an) (js ce Q) ca ?_);refine k1 (λbd=>?_) λbd=>?_
   ·have f:=dp ⇑bd;refine bh (f7 Q (lJ (λT=>bc (kN.a c (by rw[oz];exact qo f.1 f.2.1 f.2.2 (.inl T)))) λT=>?_));have U:hH P it v w ((b.reverse.map<|bb it).toArray.push<|bb it<|v.getD (A-1) 0) (A-1) E:=⟨_,oz _ _,f.1,f.2.1,f.2.2,⋯,db,⋯,N⟩;exact k1 (λ_=>bc (kN.b c U ⋯)) λ_=>bc (pG.k c U ⋯)
   ·have f:=di ⇑bd;refine bh (f7 an (lJ (λT=>bc (kN.a c (by rw[oz];exact tR f.1 f.2.1 f.2.2 T first))) λT=>?_));have U:hH P it v w ((b.reverse.map<|bb it).toArray.push<|bb it<|w.getD (E-1) 0) A (E-1):=⟨_,oz _ _,f.1,f.2.1,f.2.2,L,⋯,G,⋯⟩;exact k1 (λ_=>bc (kN.b c U ⋯)) λ_=>bc (pG.k c U ⋯)
  case g2=>
   rintro h C Sr ⟨rfl,c,⟨ex,n,B,F,ac,am,rfl,a2⟩|⟨A,E,n,ac,am,rfl,J,r⟩⟩
   ·exact bc (rU.a c a2)
   ·refine bh (nc<|h7 ?_);refine bh (hY (a:=ju P it v w z j d)
     (fI (gC (rW P it v w z j d) ?g3 _ 0 _ _ _ ?fin2 (rW.k c J ⋯))) ?hd)
    case fin2=>
     rintro h C Sr ⟨rfl,c,A,E,n,M,ac,am,rfl,J,r⟩;exact ju.b c J ⋯
    case hd=>
     rintro h C Sr ⟨rfl,c,⟨ex,n,B,F,M,ac,am,rfl,a2⟩|⟨A,E,n,M,ac,am,rfl,J,r⟩⟩
     ·exact bc (rU.a c a2)
     ·refine bh (km ?_);exact bc (qT.k ⟨c.k,c.a,c.p,c.f⟩ J ⋯)
    case g3=>
     rintro y h C Sr ⟨rfl,c,A,E,n,M,ac,am,rfl,⟨b,fd,H⟩,r⟩;have L:=H.bU;have db:=H.jI;have G:=H.x5;have N:=H.xo;have an:E-1<w.length:=⋯
     dsimp only;revert M;refine Df (λM=>M-1) ?Q ?_
     case Q=>exact λM=>rfl
     intro M;refine bh (Cv (u:=z) ⟨c.k,c.a,c.p,c.f⟩ λlc al=>?_);have ca:=al.k.trans eq;refine bh (f7 an ?_);refine bh (x1 cd (js ch an) ce (SA:=0) (H:=A) (b:=A-1) ⋯ ⋯ (λa i g f h=>pq H.aK f ⋯ ⋯) ca ?_);intro o lf fn hf;dsimp only;generalize li:A-o=lm;generalize bi:n=S7;generalize bm:A=a;have R:S7=n/\a=A:=⟨bi.symm,bm.symm⟩;clear bi bm;revert S7 a;refine tH (λS7 a=>S7=n/\a=A) (λS7 a=>hH P it v w S7 a E/\a<=A/\∀i,i<a->P (v.getD i 0)<=P (w.getD (E-1) 0)) ?SD ?f1 ?hm
     case f1=>
      rintro hw S7 a ⟨rfl,rfl⟩;exact⟨⟨b,fd,H⟩,bl _,λi g=>fn i ⋯ ⋯⟩
     case hm=>
      rintro m _ S7 a ⟨rfl,rfl⟩;try dsimp only
      have a1:=vo o ⋯ G H.perm H.aK H.cv (λd r y s=>by
       let⟨@i,h0,ap,be,rfl⟩:=zK r;let⟨@ds,ii,im,rfl⟩:=lz s;have:=hf i ⋯ ⋯;have:=pq H.cv (show ds<=E-1 by lia) ⋯ ⋯;lia)
      rw[fd,zU];refine lJ (λT=>bc<|ju.a al<|qo a1.1 a1.2.1 a1.2.2<|.inl T) λT=>?_;exact m _ _ ⟨⟨_,rfl,a1.1,a1.2.1,a1.2.2,⋯,db,⋯,N⟩,⋯,λi g=>fn i ⋯ ⋯⟩
     case SD=>
      rintro S7 a ⟨⟨b,rfl,H⟩,le,io⟩;have L:=H.bU;have G:=H.x5;have Q:a-1<v.length:=⋯
      try dsimp only
      refine bh (f7 an ?_);have Tj:=zo (E-1) ⋯ N H.perm H.aK H.cv (λd r y s=>by
       rw[lI ⋯ N,cA]at r;let⟨@i,ap,be,rfl⟩:=lz s;rw[r];exact io i ap)
      rw[lI ⋯ N]at Tj;rw[oz];refine lJ (λfr=>bc<|ju.a al<|tR Tj.1 Tj.2.1 Tj.2.2 fr first) λfr=>?_;refine bh (f7 Q ?_);refine bh (xe cd (js ce Q) ch (SA:=0) (H:=E-1) (b:=E-1-1) ⋯ ⋯ (λa i g f h=>pq Tj.2.2 f ⋯ ⋯) ca ?_);intro S8 ln f0 jp;dsimp only;generalize [w.getD (E-1) 0]++b=dL at *;generalize ls:E-1=bn at *;generalize lv:bn-S8=e1;generalize bi:(List.map (bb it) dL.reverse).toArray=S7;generalize bm:bn=i;have R:S7=(List.map (bb it) dL.reverse).toArray/\i=bn:=⟨bi.symm,bm.symm⟩;clear bi bm;revert S7 i;refine tH (λS7 i=>S7=(List.map (bb it) dL.reverse).toArray/\i=bn) (λS7 i=>hH P it v w S7 a i/\i<=bn/\∀I,I<i->P (w.getD I 0)<P (v.getD (a-1) 0)) ?SP ?f2 ?kt
      case f2=>
       rintro hw S7 i ⟨rfl,rfl⟩;exact⟨⟨_,rfl,Tj.1,Tj.2.1,Tj.2.2,L,⋯,G,⋯⟩,bl _,λI g=>f0 I ⋯ ⋯⟩
      case kt=>
       rintro m _ S7 i ⟨rfl,rfl⟩;try dsimp only
       have S:=zo S8 ⋯ (show i<=w.length by lia) Tj.1 Tj.2.1 Tj.2.2 (λd r y s=>by
        let⟨@I,h0,ap,be,rfl⟩:=zK r;let⟨@ds,ii,im,rfl⟩:=lz s;have:=jp I ⋯ ⋯;have:=pq Tj.2.1 (show ds<=a-1 by lia) ⋯ ⋯;lia)
       rw[zU];refine lJ (λf4=>bc<|ju.a al<|tR S.1 S.2.1 S.2.2 f4 first) λf4=>?_;refine lJ (λf8=>bc<|ju.a al<|qo S.1 S.2.1 S.2.2<|.inr f8) λf8=>?_;exact m _ _ ⟨⟨_,rfl,S.1,S.2.1,S.2.2,L,⋯,G,⋯⟩,⋯,λI g=>f0 I ⋯ ⋯⟩
      case SP=>
       rintro S7 i ⟨⟨b,rfl,H⟩,lw,kw⟩;try dsimp only
       refine bh (f7 Q ?_);have as:=vo (a-1) ⋯ G H.perm H.aK H.cv (λd r y s=>by
        rw[lI L G,cA]at r;let⟨@I,ap,be,rfl⟩:=lz s;have:=kw I ap;rw[r];lia)
       rw[lI L G]at as;rw[oz];refine lJ (λga=>bc<|ju.a al<|qo as.1 as.2.1 as.2.2<|.inl ga) λga=>?_;have U:hH P it v w (([v.getD (a-1) 0]++b).reverse.map<|bb it).toArray (a-1) i:=⟨_,rfl,as.1,as.2.1,as.2.2,⋯,H.jI,⋯,H.xo⟩;exact k1 (λ_=>bc (ju.b al U ⋯)) λ_=>bc (rW.k al U ⋯)
def RP{A:Type}{aA:hp}{D:PUnit->A->ao->Prop}{z a:A}{j:ao}(e:D ⟨⟩ a j):kasC aA O Sv (set a:StateT A dR PUnit) D z j:=by
 unfold kasC;rw[StateT.run_set];exact aW e
theorem wB{SU:Type}:∀(k:List SU) (b:List SU) (r f R:Nat),r+k.length<=b.length->r=R+f->((k.zipIdx f).foldl (λ(g:Array SU) (d:SU×Nat)=>g.setIfInBounds (R+d.2) d.1) b.toArray)=(b.take r++k++b.drop (r+k.length)).toArray
 |[],b,r,f,R,e,c=>by simp
 |d::k,b,r,f,R,e,c=>by
  rw[dF]at e;rw[xl,jj];dsimp only;rw[<-c,Be,wB k (b.set r d) (r+1) (f+1) R (by rw[w5];lia) ⋯];congr 1;have h:(b.set r d).take (r+1)=b.take r++[d]:=by
   apply pz;intro a;rw[n7,List.getElem?_append,hy,n7,Eb];by_cases t:a<r
   ·rw[aJ ⋯,aM ⋯,aJ ⋯,aJ t]
   ·by_cases C:a=r
    ·subst C;rw[aJ ⋯,aJ rfl,aJ ⋯,aM ⋯];simp[show a-min a b.length=0 by lia]
    ·rw[aM ⋯,aM ⋯];rw[vL];rw[eD];lia
  have i:(b.set r d).drop (r+1+k.length)=b.drop (r+(k.length+1)):=by
   apply pz;intro a;rw[md,md,Eb,aM ⋯];congr 1;lia
  rw[h,i,dF,bC,bC,bC];rfl
def E8{c e b:List Nat}{o H:Nat}(p:cp P c)(q:cp P e)(u:0<e.length)(v:0<c.length)(t:∀d∈c.take o,P d<=P (e.getD 0 0))(r:∀d∈e.drop H,P (c.getD (c.length-1) 0)<=P d)(l:b.Perm (c.drop o++e.take H))(TC:cp P b):cp P (c.take o++b++e.drop H)/\(c.take o++b++e.drop H).Perm (c++e):=by
 have m:∀y∈e,P (e.getD 0 0)<=P y:=λy g=>by
  let⟨@i,W,n,rfl⟩:=ke (a:=0) (k:=e) (by rwa [lu]);exact nG q (gI _) n
 have s:∀d∈c,P d<=P (c.getD (c.length-1) 0):=λd f=>by
  let⟨@i,W,n,rfl⟩:=ke (a:=0) (k:=c) (by rwa [lu]);exact nG p (by omega) (by omega)
 have h:cp P (c.take o++c.drop o):=by rwa [fV]
 have j:cp P (e.take H++e.drop H):=by rwa [fV]
 have h:=fs.mp h;have j:=fs.mp j;refine⟨fs.mpr ⟨fs.mpr ⟨h.1,TC,λd f y g=>?_⟩,j.2.1,λd f y g=>?_⟩,?_⟩
 ·rcases dt.mp (l.mem_iff.mp g) with g|g
  ·exact h.2.2 d f y g
  ·exact xC (t d f) (m y<|oB g)
 ·rcases dt.mp f with f|f
  ·exact xC (t d f) (m y<|nU g)
  ·rcases dt.mp (l.mem_iff.mp f) with f|f
   ·exact xC (s d<|nU f) (r y g)
   ·exact j.2.2 d f y g
 ·refine (fq _<|ee _ l).trans ?_;rw[<-bC,fV,bC,fV]
def Io(R:fO p P (ff Sz l O SS it) j){m:List Nat}(G:∀d∈m,d<p){a aK A E bm fn:Nat}{z:bz}(w:PyProof.Rows.kindOf z=SS)(fr:arrOf z=(m.map<|bb it).toArray)(S:hA z=Y)(U:(hT z)[a]?=Z (aK,A,bm))(L:(hT z)[a+1]?=Z (aK+A,E,fn))(f0:0<A)(bn:0<E)(go:aK+A+E<=m.length)(C:cp P ((m.drop aK).take A))(F:cp P ((m.drop<|aK+A).take E)){D:Bool->bz->ao->Prop}(e:∀mid s,PyProof.Rows.kindOf s=SS->hA s=Y->hT s=((hT z).setIfInBounds a (aK,A+E,bm)).eraseIdxIfInBounds (a+1)->mid.Perm ((m.drop aK).take<|A+E)->cp P mid->
   arrOf s=((m.take aK++mid++m.drop (aK+(A+E))).map<|bb it).toArray->D X s j):
  kasC (aS Sz l) O Sv (uQ a) D z j:=by
 have bs:((m.drop aK).take A).length=A:=by rw[hy,gZ];lia
 have f1:((m.drop<|aK+A).take E).length=E:=by rw[hy,gZ];lia
 have I:∀i,i<A->((m.drop aK).take A).getD i 0=m.getD (aK+i) 0:=λi L=>by simp[List.getD,n7,md,L]
 have J:∀i,i<E->((m.drop<|aK+A).take E).getD i 0=m.getD (aK+A+i) 0:=λi L=>by simp[List.getD,n7,md,L]
 have T:(m.drop aK).take A++(m.drop<|aK+A).take E=(m.drop aK).take (A+E):=by rw[<-nA,pC]
 have bv:m.take aK++(m.drop aK).take (A+E)++m.drop (aK+(A+E))=m:=by rw[pC,fV]
 have ca:∀a i,aK<=a->a<=i->i<aK+A->P (m.getD a 0)<=P (m.getD i 0):=λa i g f h=>by
  have:=nG C (a:=a-aK) (i:=i-aK) ⋯ ⋯
  rwa [I _ ⋯,I _ ⋯,show aK+(a-aK)=a by lia,show aK+(i-aK)=i by lia]at this
 have cd:∀a i,aK+A<=a->a<=i->i<aK+A+E->P (m.getD a 0)<=P (m.getD i 0):=λa i g f h=>by
  have:=nG F (a:=a-(aK+A)) (i:=i-(aK+A)) ⋯ ⋯
  rwa [J _ ⋯,J _ ⋯,show aK+A+(a-(aK+A))=a by lia,show aK+A+(i-(aK+A))=i by lia]at this
 have B:∀d∈(m.drop aK).take A,∃i,aK<=i/\i<aK+A/\d=m.getD i 0:=λd r=>by
  let⟨@i,M,u,rfl⟩:=pM r;exact⟨aK+i,⋯,⋯,rfl⟩
 have ce:∀d∈(m.drop<|aK+A).take E,∃i,aK+A<=i/\i<aK+A+E/\d=m.getD i 0:=λd r=>by
  let⟨@i,M,u,rfl⟩:=pM r;exact⟨aK+A+i,⋯,⋯,rfl⟩
 unfold uQ;with_unfolding_all refine bh (j6 ?_);simp only[U,L,fr];refine bh (RP ?_);refine bh (f7 (show aK+A<m.length by lia) ?_);refine bh (x1 R (js G (show aK+A<m.length by lia)) G (SA:=aK) (H:=A) (b:=0) ⋯ f0 ca (by exact w) ?_);intro o ch ci f4;dsimp only;by_cases cl:A-o=0
 ·rw[aJ ⇑cl];refine bc (e _ _ (by exact w) (by exact S) rfl (List.Perm.refl _) ?_ ?_)
  ·rw[<-T];refine fs.mpr ⟨C,F,λd r y al=>?_⟩;let⟨@i,u,f8,rfl⟩:=B d r;let⟨@am,co,an,rfl⟩:=ce y al;have:=ci i u ⋯;have:=cd (aK+A) am ⋯ co an;lia
  ·rw[bv]
 rw[aM ⇑cl];rw[show aK+o+(A-o)-1=aK+A-1 by lia];refine bh (f7 (show aK+A-1<m.length by lia) ?_);refine bh (xe R (js G (show aK+A-1<m.length by lia)) G (SA:=aK+A) (H:=E) (b:=E-1) ⋯ ⋯ cd (by exact w) ?_);intro n ap ga cr;dsimp only;by_cases cs:n=0
 ·rw[aJ ⇑cs];refine bc (e _ _ (by exact w) (by exact S) rfl (List.Perm.refl _) ?_ ?_)
  ·rw[<-T];refine fs.mpr ⟨C,F,λd r y al=>?_⟩;let⟨@i,u,f8,rfl⟩:=B d r;let⟨@am,co,an,rfl⟩:=ce y al;have:=cr am ⋯ an;have:=ca i (aK+A-1) u ⋯ ⋯;lia
  ·rw[bv]
 rw[aM ⇑cs];have ge:(m.map<|bb it).toArray.extract (aK+o) (aK+A)=((((m.drop aK).take A).drop o).map<|bb it).toArray:=by
  apply kg;simp only[Ad,List.extract_eq_drop_take,kG,lA];rw[qW,nA,show aK+A-(aK+o)=A-o by lia]
 have gl:(m.map<|bb it).toArray.extract (aK+A) (aK+A+n)=((((m.drop<|aK+A).take E).take n).map<|bb it).toArray:=by
  apply kg;simp only[Ad,List.extract_eq_drop_take,kG,lA];rw[tL,qw ap,show aK+A+n-(aK+A)=n by lia]
 rw[ge,gl];have t:∀d∈((m.drop aK).take A).take o,P d<=P (((m.drop<|aK+A).take E).getD 0 0):=λd r=>by
  rw[J 0 bn];let⟨@i,M,u,rfl⟩:=lz r;rw[I i ⋯];exact ci _ ⋯ ⋯
 have db:∀d∈((m.drop<|aK+A).take E).drop n,P (((m.drop aK).take A).getD (((m.drop aK).take A).length-1) 0)<=P d:=λd r=>by
  rw[bs,I _ ⋯];let⟨@i,M,u,rfl⟩:=ke r;rw[J i ⋯,show aK+(A-1)=aK+A-1 by lia];exact cr _ ⋯ ⋯
 have ds:∀d∈((m.drop aK).take A).drop o,P ((((m.drop<|aK+A).take E).take n).getD 0 0)<=P d:=λd r=>by
  rw[show (((m.drop<|aK+A).take E).take n).getD 0 0=((m.drop<|aK+A).take E).getD 0 0 by simp only[List.getD,n7,aJ (show 0<n by lia)],J 0 bn];let⟨@i,M,u,rfl⟩:=ke r;rw[I i ⋯];have:=f4 (aK+i) ⋯ ⋯;rw[AM];lia
 have bp:(((m.drop aK).take A).drop o).length=A-o:=by rw[gZ,bs]
 have dL:(((m.drop<|aK+A).take E).take n).length=n:=by rw[hy,f1];lia
 have eq:∀d∈((m.drop<|aK+A).take E).take n,P d<=P ((((m.drop aK).take A).drop o).getD ((((m.drop aK).take A).drop o).length-1) 0):=λd r=>by
  rw[bp,show (((m.drop aK).take A).drop o).getD (A-o-1) 0=((m.drop aK).take A).getD (A-1) 0 by simp only[List.getD,md,show o+(A-o-1)=A-1 by lia],I _ ⋯,show aK+(A-1)=aK+A-1 by lia];let⟨@i,M,u,rfl⟩:=lz r;rw[J i ⋯];have:=ga (aK+A+i) ⋯ ⋯;lia
 have ev:∀d∈((m.drop aK).take A).drop o,d<p:=λd r=>G d (nU<|oB<|nU r);have ex:∀d∈((m.drop<|aK+A).take E).take n,d<p:=λd r=>G d (nU<|oB<|oB r);by_cases fd:A-o<=n
 ·rw[aJ fd];refine bh (KG R ev ex (C.sublist<|zd _ _) (F.sublist<|tS _ _) ⋯ ⋯ ds eq (by exact w) ?_);intro out s as v;let⟨@b,rfl,N,a1⟩:=as;have Q:=E8 (P:=P) C F ⋯ ⋯ t db N a1;refine bh (km ?_);refine bh (j6 ?_);refine bc ?_;have c:hA s=Y:=v.f.trans S;show D (hA s).isNone _ j;rw[c];refine e (((m.drop aK).take A).take o++b++((m.drop<|aK+A).take E).drop n) _ (v.k.trans w) (by first|rfl|exact c) (by exact v.p) (by rw[<-T];exact Q.2) Q.1 ?_;have a2:arrOf s=(m.map<|bb it).toArray:=v.a;have bD:b.length=A-o+n:=by rw[N.length_eq,c5,bp,dL]
  have bd:=wB (b.map<|bb it) (m.map<|bb it) (aK+o) 0 (aK+o) (by rw[a9,a9,bD];lia) rfl;show List.foldl (λg d=>g.setIfInBounds (aK+o+d.2) d.1) (arrOf s) (b.map<|bb it).toArray.toList.zipIdx=_;rw[a2];refine bd.trans ?_;rw[a9,bD,<-lA,<-kG,<-eF,<-eF];congr 2;have be:m.take (aK+o)=m.take aK++((m.drop aK).take A).take o:=by
   rw[tL,qw ch,pC]
  have bi:m.drop (aK+o+(A-o+n))=((m.drop<|aK+A).take E).drop n++m.drop (aK+(A+E)):=by
   have:=wH (k:=m.drop (aK+A)) (a:=n) (i:=E) ap (by rw[gZ];lia);rw[nA,nA]at this;rw[show aK+o+(A-o+n)=aK+A+n by lia,this,show aK+A+E=aK+(A+E) by lia]
  rw[be,bi];simp only[bC]
 ·rw[aM fd];refine bh (H4 R ev ex (C.sublist<|zd _ _) (F.sublist<|tS _ _) ⋯ ⋯ ds eq (by exact w) ?_);intro out s as v;let⟨@b,rfl,N,a1⟩:=as;have Q:=E8 (P:=P) C F ⋯ ⋯ t db N a1;refine bh (km ?_);refine bh (j6 ?_);refine bc ?_;have c:hA s=Y:=v.f.trans S;show D (hA s).isNone _ j;rw[c];refine e (((m.drop aK).take A).take o++b++((m.drop<|aK+A).take E).drop n) _ (v.k.trans w) (by first|rfl|exact c) (by exact v.p) (by rw[<-T];exact Q.2) Q.1 ?_;have a2:arrOf s=(m.map<|bb it).toArray:=v.a;have bD:b.length=A-o+n:=by rw[N.length_eq,c5,bp,dL]
  have bd:=wB (b.map<|bb it) (m.map<|bb it) (aK+o) 0 (aK+o) (by rw[a9,a9,bD];lia) rfl;show List.foldl (λg d=>g.setIfInBounds (aK+o+d.2) d.1) (arrOf s) (b.map<|bb it).toArray.toList.zipIdx=_;rw[a2];refine bd.trans ?_;rw[a9,bD,<-lA,<-kG,<-eF,<-eF];congr 2;have be:m.take (aK+o)=m.take aK++((m.drop aK).take A).take o:=by
   rw[tL,qw ch,pC]
  have bi:m.drop (aK+o+(A-o+n))=((m.drop<|aK+A).take E).drop n++m.drop (aK+(A+E)):=by
   have:=wH (k:=m.drop (aK+A)) (a:=n) (i:=E) ap (by rw[gZ];lia);rw[nA,nA]at this;rw[show aK+o+(A-o+n)=aK+A+n by lia,this,show aK+A+E=aK+(A+E) by lia]
  rw[be,bi];simp only[bC]
end
section
variable{Sz:bA}{l:bk}{O:bw}{Sv:ae->ao->Prop}{SS:gA}{it:Array bf}{P:Nat->Int}{p:Nat}{j:ao}{n:Array (Nat×Nat×Nat)}
structure eI(SS:gA)(it:Array bf)(n:Array (Nat×Nat×Nat))(z:bz)(p:Array Nat):Prop where
 k:PyProof.Rows.kindOf z=SS
 a:arrOf z=p.map (bb it)
 p:hT z=n
 f:hA z=Y
def rX(f:fO p P (ff Sz l O SS it) j){q:Array Nat}(b:c4 p q){a i:Nat}(U:a<p)(c:i<p){z:bz}(m:eI SS it n z q){D:Option Bool->bz->ao->Prop}(e:D (Z<|decide (ba P q a<ba P q i)) z j):
  kasC (aS Sz l) O Sv (nR a i) D z j:=by
 have d:∀a,a<p->(q.map<|bb it)[a]?=Z (bb it<|q.getD a 0):=λa U=>by
  have:a<q.size:=by rw[b.size];exact U
  simp[Array.getD,this]
 rw[ltAt'_eq];refine bh (j6 ?_);rw[m.a];dsimp only;rw[u4,u4,d a U,d i c];refine bh (bc ?_);refine bh (bc ?_);exact q4 f (b.lt U) (b.lt c) m.k e
variable{q:Array Nat}{z:bz}
def sI(m:eI SS it n z q){a i:Nat}{D:Unit->bz->ao->Prop}(e:∀b,eI SS it n b (mq q a i)->D () b j):kasC (aS Sz l) O Sv (qp a i) D z j:=by
 rw[reverseSlice'_eq];refine km (e _ ⟨m.k,?_,m.p,m.f⟩);show mirror (arrOf z) a i ((i-a)/2)=_;rw[m.a];exact Ec (bb it) (λo=>a+o) (λo=>i-1-o) _ q
def IK(m:eI SS it n z q){a i:Nat}{D:Unit->bz->ao->Prop}(e:∀b,eI SS it n b (qy q a<|a-i)->D () b j):kasC (aS Sz l) O Sv (moveDown' a i) D z j:=by
 rw[moveDown'_eq];refine km (e _ ⟨m.k,?_,m.p,m.f⟩);show qy (arrOf z) a (a-i)=_;rw[m.a];exact Ec (bb it) (λo=>a-o) (λo=>a-o-1) _ q
theorem rm{A Tx:Type}{aA:hp}{x:Nat->Tx->StateT A dR (ForInStep Tx)}{D:Tx->A->ao->Prop}(E:Nat->Tx->A->ao->Prop)(SN:Nat)(step:∀d h z Sr,d<SN->E d h z Sr->kasC aA O Sv (x d h) (λu b f=>match u with | .yield a=>E (d+1) a b f | .done a=>D a b f) z Sr):∀(H g:Nat) (h:Tx) (z:A) (Sr:ao),g+H<=SN->(∀h z Sr,E (g+H) h z Sr->D h z Sr)->E g h z Sr->
   kasC aA O Sv (forIn (range' g H) h x) D z Sr
 |0,g,h,z,Sr,i,fin,e=>by
  show kasC aA O Sv (forIn ([]:List Nat) h x) D z Sr;exact kasC_nil (fin h z Sr e)
 |H+1,g,h,z,Sr,i,fin,e=>by
  show kasC aA O Sv (forIn (g::range' (g+1) H) h x) D z Sr;refine kasC_cons (hl (step g h z Sr ⋯ e) (λu f Sq=>?_) λ_ W c=>c);let⟨u,b⟩:=u;cases u with
  |done a=>exact Sq
  |yield a=>exact rm E SN step H (g+1) a b f ⋯ (λh z Sr U=>fin h z Sr (by rw[show g+(H+1)=g+1+H by lia];exact U)) Sq
end
section
variable{Sz:bA}{l:bk}{O:bw}{Sv:ae->ao->Prop}{SS:gA}{it:Array bf}{P:Nat->Int}{p:Nat}{j:ao}{n:Array (Nat×Nat×Nat)}
def hU(P:Nat->Int)(q:Array Nat)(Q H:Nat):Prop:=(∀a i,Q<=a->a<=i->i<Q+H->ba P q a<=ba P q i)
def Cn{q:Array Nat}{Q H:Nat}(e:∀i,Q+1<=i->i<Q+H->ba P q (i-1)<=ba P q i):hU P q Q H:=by
 intro a i U b c;obtain⟨s,rfl⟩:∃s,i=a+s:=⟨i-a,⋯⟩;clear b;induction s with
 |zero=>exact jX _
 |succ s d=>
  have g:=d ⋯;have f:=e (a+(s+1)) ⋯ c;rw[show a+(s+1)-1=a+s by lia]at f;lia
def LM(al:fO p P (ff Sz l O SS it) j){q:Array Nat}(am:c4 p q){Q H s:Nat}(bi:Q+H<=p)(t:1<=s)(bm:s<=H)(up:hU P q Q s){z:bz}(m:eI SS it n z q){D:Bool->bz->ao->Prop}(e:∀x b,c4 p x->eI SS it n b x->(∀a,a<Q->x[a]?=q[a]?)->hU P x Q H->D X b j):
  kasC (aS Sz l) O Sv (binarySort' Q H s) D z j:=by
 rw[binarySort'_eq];rw[show max s 1=s by lia];with_unfolding_all refine bh (hY (a:=λh b Sr=>j=Sr/\h=(Y,())/\∃r,c4 p r/\eI SS it n b r/\(∀a,a<Q->r[a]?=q[a]?)/\hU P r Q H)
  (fI (rm (λd h b Sr=>j=Sr/\h=(Y,())/\1<=d/\∃r,c4 p r/\eI SS it n b r/\(∀a,a<Q->r[a]?=q[a]?)/\hU P r Q d) H ?step _ _ _ _ _ ⋯ ?fin ⟨rfl,rfl,t,q,am,m,λ_ W=>rfl,up⟩)) ?after)
 case after=>
  rintro h b Sr ⟨rfl,rfl,r,B,C,E,A⟩;exact bc (e r _ B C E A)
 case fin=>
  rintro h b Sr ⟨rfl,rfl,bn,r,B,C,E,A⟩;rw[show s+(H-s)=H by lia]at A;exact⟨rfl,rfl,r,B,C,E,A⟩
 case step=>
  rintro o h b Sr bs ⟨rfl,rfl,S6,r,F,T,ap,up⟩;dsimp only;have as:∀a,Q<=a->a<Q+0->ba P r a<=ba P r (Q+o):=λa g f=>⋯
  have a1:∀a,Q+o<=a->a<Q+o->ba P r (Q+o)<=ba P r a:=λa g f=>⋯
  refine bh (hY (a:=λh v Sr=>j=Sr/\b=v/\∃k u,h=(Y,k,u)/\k<=o/\(∀a,Q<=a->a<Q+k->ba P r a<=ba P r (Q+o))/\(∀a,Q+k<=a->a<Q+o->ba P r (Q+o)<=ba P r a))
   (fI (rm (λd h v Sr=>j=Sr/\b=v/\∃k u,h=(Y,k,u)/\k<=u/\u<=o/\u-k<=o-d/\(∀a,Q<=a->a<Q+k->ba P r a<=ba P r (Q+o))/\(∀a,Q+u<=a->a<Q+o->ba P r (Q+o)<=ba P r a)) o ?s2 _ _ _ _ _ ⋯ ?f2 ⟨rfl,rfl,0,o,rfl,⋯,⋯,⋯,as,a1⟩)) ?a2)
  case f2=>
   rintro h v Sr ⟨rfl,rfl,k,u,rfl,dp,di,nd,lL,mB⟩;exact⟨rfl,rfl,k,u,rfl,⋯,lL,λa d y=>mB a ⋯ y⟩
  case s2=>
   rintro d h v Sr bv ⟨rfl,rfl,k,u,rfl,dp,di,nd,lL,mB⟩;dsimp only;by_cases c:k >= u
   ·rw[aJ c];exact bc ⟨rfl,rfl,k,u,rfl,⋯,lL,λa d y=>mB a ⋯ y⟩
   rw[aM c];have G:k<=(k+u)/2:=⋯
   have bd:(k+u)/2<u:=⋯
   have I:(k+u)/2-k<=o-(d+1):=⋯
   have J:u-((k+u)/2+1)<=o-(d+1):=⋯
   generalize (k+u)/2=mid at G bd I J ⊢;refine bh (rX al F ⋯ ⋯ T ?_);dsimp only;by_cases L:ba P r (Q+o)<ba P r (Q+mid)
   ·rw[aJ ⇑L];refine bc ⟨rfl,rfl,k,mid,rfl,G,⋯,I,lL,λa d y=>?_⟩;have:=up (Q+mid) a ⋯ d y;lia
   ·rw[aM ⇑L];refine bc ⟨rfl,rfl,mid+1,u,rfl,⋯,di,J,λa d y=>?_,mB⟩;have:=up a (Q+mid) d ⋯ ⋯;lia
  case a2=>
   rintro h v Sr ⟨rfl,rfl,k,u,rfl,dp,lL,mB⟩;dsimp only;refine bh (IK T ?_);intro ca be;have M:∀a,(qy r (Q+o)<|Q+o-(Q+k))[a]?=if a=Q+k then r[Q+o]? else if Q+k<a/\a<=Q+o then r[a-1]? else r[a]?:=λa=>by
    have:=getElem?_bubble (xs:=r) (src:=Q+o) (by rw[F.size];lia) (Q+o-(Q+k)) ⋯ a
    rwa [show Q+o-(Q+o-(Q+k))=Q+k by lia]at this
   have aZ:∀a,ba P (qy r (Q+o)<|Q+o-(Q+k)) a=if a=Q+k then ba P r (Q+o) else if Q+k<a/\a<=Q+o then ba P r (a-1) else ba P r a:=λa=>by
    have M:=M a;by_cases c:a=Q+k
    ·rw[aJ c]at M ⊢;exact l_ M
    ·rw[aM c]at M ⊢;by_cases N:Q+k<a/\a<=Q+o
     ·rw[aJ N]at M ⊢;exact l_ M
     ·rw[aM N]at M ⊢;exact l_ M
   refine bc ⟨rfl,rfl,⋯,_,F.Nt _ _,be,λa U=>by rw[M,aM ⋯,aM ⋯];exact ap a U,Cn λi d y=>?_⟩;rw[aZ,aZ];by_cases R:i-1=Q+k
   ·rw[aJ R,aM ⋯,aJ ⋯];exact mB (i-1) ⋯ ⋯
   ·rw[aM R];by_cases S:i=Q+k
    ·rw[aJ S,aM ⋯];exact lL (i-1) ⋯ ⋯
    ·rw[aM S];by_cases ce:Q+k<i-1
     ·rw[aJ ⋯,aJ ⋯];exact up _ _ ⋯ ⋯ ⋯
     ·rw[aM ⋯,aM ⋯];exact up _ _ ⋯ ⋯ ⋯
def el(P:Nat->Int)(q:Array Nat):Nat->List (Nat×Nat×Nat)->Nat->Prop
 |g,[],f=>g=f
 |g,(d,k,_)::I,f=>d=g/\0<k/\hU P q d k/\el P q (g+k) I f
variable{q:Array Nat}
theorem el.le:∀{I:List (Nat×Nat×Nat)}{g f:Nat},el P q g I f->g+I.length<=f
 |[],g,f,e=>by rw[show f=g from e.symm];exact bl _
 | (d,k,_)::I,g,f,e=>by
  have:=e.2.2.2.le;have:=e.2.1;rw[dF];lia
theorem el.congr{r:Array Nat}:∀{I:List (Nat×Nat×Nat)}{g f:Nat},el P q g I f->(∀a,g<=a->a<f->ba P r a=ba P q a)->el P r g I f
 |[],g,f,e,_=>e
 | (d,k,_)::I,g,f,e,M=>by
  have:=e.2.2.2.le;let@⟨rfl,C,b,c⟩:=e;refine⟨rfl,C,λa i U h j=>?_,c.congr λa g f=>M a ⋯ f⟩;rw[M a U ⋯,M i ⋯ ⋯];exact b a i U h j
theorem el.app{q:Array Nat}:∀{I L:List (Nat×Nat×Nat)}{g f:Nat},el P q g (I++L) f↔∃h,el P q g I h/\el P q h L f
 |[],L,g,f=>⟨λe=>⟨g,rfl,e⟩,λ⟨h,c,e⟩=>by rw[show g=h from c];exact e⟩
 | (d,k,j)::I,L,g,f=>by
  show (d=g/\0<k/\hU P q d k/\el P q (g+k) (I++L) f)↔_;rw[el.app];constructor
  ·rintro⟨t,C,a,h,b,i⟩;exact⟨h,⟨t,C,a,b⟩,i⟩
  ·rintro⟨h,⟨t,C,a,b⟩,i⟩;exact⟨t,C,a,h,b,i⟩
def JO{SU:Type}{k:List SU}{a:Nat}(e:a+1<k.length):∃aX d y bp,k=aX++d::y::bp/\aX.length=a:=by
 refine⟨k.take a,k[a]'⋯,k[a+1],k.drop<|a+2,?_,by rw[hy];lia⟩;have b:=jz (l:=k) (i:=a) ⋯;have c:=jz (l:=k) (i:=a+1) e;rw[<-c,<-b,fV]
def ui(k:List Nat)(a:Nat):ba P k.toArray a=P (k.getD a 0):=by unfold ba;rw[lD]
def CT(L:fO p P (ff Sz l O SS it) j){q:Array Nat}(y:c4 p q){z:bz}(m:eI SS it n z q){Q a:Nat}(U:a+1<n.size)(Su:el P q 0 n.toList Q)(ch:Q<=p){D:Bool->bz->ao->Prop}(e:∀B r s,c4 p r->eI SS it B s r->B.size+1=n.size->el P r 0 B.toList Q->(∀a,Q<=a->ba P r a=ba P q a)->D X s j):kasC (aS Sz l) O Sv (uQ a) D z j:=by
 let⟨aX,⟨aK,A,b⟩,⟨cv,E,u⟩,@bp,c,rfl⟩:=JO (k:=n.toList) (a:=a) ⇑U;rw[c]at Su;let⟨@h,M,rfl,N,R,rfl,S,T,b0⟩:=el.app.mp Su;have di:=b0.le;have v:n=(aX++(aK,A,b)::(aK+A,E,u)::bp).toArray:=by rw[<-c]
 have al:q.size=p:=y.size;have am:∀d∈q.toList,d<p:=λd an=>gr.mp (y.mem_iff.mp an);have w:∀a,ba P q a=P (q.toList.getD a 0):=λa=>ui q.toList a;have bD:q.toList.length=p:=by rw[fy,al]
 have F:∀g H,g+H<=p->hU P q g H->cp P ((q.toList.drop g).take H):=λg H ci e=>by
  refine pe.mpr λa i U ap cl=>?_;have as:=U;have a1:=ap;rw[hy,gZ,bD]at as a1;have:=e (g+a) (g+i) ⋯ ⋯ ⋯;rw[w,w]at this;rw[wg,uo,wg,uo];rw[cN,cN,e4 ⋯,e4 ⋯]at this;exact this
 refine Io L (m:=q.toList) am (a:=aX.length) (aK:=aK) (A:=A) (E:=E) (bm:=b) (fn:=u) m.k (by rw[m.a];apply kg;simp) m.f (by rw[m.p,v];simp) (by rw[m.p,v];simp) N S ⋯ (F _ _ ⋯ R) (F _ _ ⋯ T) ?_;intro mid s S6 a2 bd G be bi;have bm:mid.length=A+E:=by rw[G.length_eq,hy,gZ,bD];lia
 have bn:q.toList.take aK++(q.toList.drop aK).take (A+E)++q.toList.drop (aK+(A+E))=q.toList:=by rw[pC,fV]
 have bs:c4 p (q.toList.take aK++mid++q.toList.drop (aK+(A+E))).toArray:=by
  show (q.toList.take aK++mid++q.toList.drop (aK+(A+E))).Perm (range p);refine List.Perm.trans (fq _<|ee _ G) ?_;rw[bn];exact y
 have TJ:(q.toList.take aK).length=aK:=by rw[hy,bD];lia
 have bv:∀a,a<aK->ba P (q.toList.take aK++mid++q.toList.drop (aK+(A+E))).toArray a=ba P q a:=λa U=>by
  rw[ui,w];congr 1;rw[cN,cN,bC,jR ⋯,n7,aJ U]
 have I:∀a,aK+(A+E)<=a->ba P (q.toList.take aK++mid++q.toList.drop (aK+(A+E))).toArray a=ba P q a:=λa U=>by
  rw[ui,w];congr 1;rw[cN,cN,mL (by rw[c5];lia),md,c5,TJ,bm];congr 2;lia
 have J:∀a,aK<=a->a<aK+(A+E)->ba P (q.toList.take aK++mid++q.toList.drop (aK+(A+E))).toArray a=P (mid.getD (a-aK) 0):=λa t C=>by
  rw[ui];congr 1;rw[cN,cN,bC,mL ⋯,TJ,jR ⋯]
 have ca:((aX++(aK,A,b)::(aK+A,E,u)::bp).toArray.setIfInBounds aX.length (aK,A+E,b)).eraseIdxIfInBounds (aX.length+1)=(aX++(aK,A+E,b)::bp).toArray:=by
  rw[Be,List.set_append_right _ _<|bl _,y0,List.set_cons_zero];rw[w9,List.eraseIdx_append_of_length_le ⋯,show aX.length+1-aX.length=1 by lia];rfl
 refine e ((aX++(aK,A+E,b)::bp).toArray) _ s bs ⟨S6,by rw[bi];apply kg;simp,by rw[bd,m.p,v,ca],a2⟩ (by rw[v];simp;lia) ?_ (λa U=>I a ⋯);have cd:el P q (aK+(A+E)) bp Q:=by rw[<-pO];exact b0
 refine el.app.mpr ⟨aK,M.congr λa W f=>bv a f,rfl,⋯,λa i t C ce=>?_,cd.congr λa g f=>I a g⟩
 ·rw[J a t ⋯,J i ⋯ ce];exact nG be ⋯ ⋯
end
section
variable{Sz:bA}{l:bk}{O:bw}{Sv:ae->ao->Prop}{SS:gA}{it:Array bf}{P:Nat->Int}{p:Nat}{j:ao}{n:Array (Nat×Nat×Nat)}
variable{r:Array Nat}
def tM(b:c4 p r){a i:Nat}(c:i<=p)(o:Nat):(mq r a i)[o]?=if a<=o/\o<i then r[a+i-1-o]? else r[o]?:=by
 unfold mq;rw[getElem?_mirror_all (by rw[b.size];lia)]
def N0(b:c4 p r){a i:Nat}(d:i<=p)(c:∀o,a<=o->o<i->ba P r o=ba P r a)(o:Nat):ba P (mq r a i) o=ba P r o:=by
 by_cases e:a<=o/\o<i
 ·rw[l_ (show (mq r a i)[o]?=r[a+i-1-o]? by rw[tM b d,aJ e]),c _ ⋯ ⋯,c o e.1 e.2]
 ·exact l_ (by rw[tM b d,aM e])
structure mw(P:Nat->Int)(p Q:Nat)(q r:Array Nat):Prop where
 mI:c4 p r
 be:∀a,a<Q->r[a]?=q[a]?
 aZ:∀o,ba P r o=ba P q o
def mw.rev{Q:Nat}{q:Array Nat}(SE:mw P p Q q r){a i:Nat}(U:Q<=a)(b:i<=p)(c:∀o,a<=o->o<i->ba P q o=ba P q a):mw P p Q q (mq r a i):=
 ⟨SE.mI.rev a i,λo d=>by rw[tM SE.mI b,aM ⋯];exact SE.be o d,λo=>by
  rw[N0 SE.mI b (λo g f=>by rw[SE.aZ,SE.aZ];exact c o g f)];exact SE.aZ o⟩
theorem Gy{x:Nat->Int}{g f:Nat}(e:∀i,g+1<=i->i<f->x i=x (i-1)):∀s,g+s<f->x (g+s)=x g
 |0,_=>rfl
 |s+1,hd=>(e (g+(s+1)) ⋯ hd).trans (Gy e s ⋯)
def Dd(o:fO p P (ff Sz l O SS it) j){Q a:Nat}(w:Q+a<=p){r:Array Nat}{f:bz}{g:Nat}(q:c4 p r)(SD:eI SS it n f r)(x:1<=g)(y:g<=a)(s:∀i,Q+1<=i->i<Q+g->ba P r (i-1)<=ba P r i):
   kasC (aS Sz l) O Sv (forIn [g:a] ((Y:Option (Option Nat)),g) λd h=>nR (Q+h.2) (Q+h.2-1) >>= λu=>match u with
    |some t=>if t=X then pure (ForInStep.done (Y,h.2)) else pure (ForInStep.yield (Y,h.2+1))
    |d=>pure<|ForInStep.done (Z Y,h.2))
    (λh b Sr=>j=Sr/\f=b/\∃H,h=(Y,H)/\g<=H/\H<=a/\(∀i,Q+1<=i->i<Q+H->ba P r (i-1)<=ba P r i)/\(H=a\/ba P r (Q+H)<ba P r (Q+H-1))) f j:=by
 refine fI (rm (λd h b Sr=>j=Sr/\f=b/\h=(Y,d)/\g<=d/\∀i,Q+1<=i->i<Q+d->ba P r (i-1)<=ba P r i) a ?_ _ _ _ _ _ ⋯ ?_ ⟨rfl,rfl,rfl,bl _,s⟩)
 ·rintro d h b Sr z ⟨rfl,rfl,rfl,m,e⟩;dsimp only;refine bh (rX o q ⋯ ⋯ SD ?_);dsimp only;by_cases k:ba P r (Q+d)<ba P r (Q+d-1)
  ·rw[aJ ⇑k];exact bc ⟨rfl,rfl,d,rfl,m,⋯,e,.inr k⟩
  ·rw[aM ⇑k];refine bc ⟨rfl,rfl,rfl,⋯,λi v A=>?_⟩;by_cases c:i=Q+d
   ·subst c;lia
   ·exact e i v ⋯
 ·rintro h b Sr ⟨rfl,rfl,rfl,m,e⟩;rw[show g+(a-g)=a by lia]at e ⊢;exact⟨rfl,rfl,a,rfl,⋯,bl _,e,.inl rfl⟩
def t9(Q a H:Nat): StateT bz dR (Option Nat):=(qp Q (Q+H) >>= λ_ => (forIn [H:a] ((Y:Option (Option Nat)),H) λd h => nR (Q+h.2) (Q+h.2-1) >>= λu => match u with
    |some b => if b=X then pure (ForInStep.done (Y,h.2)) else pure (ForInStep.yield (Y,h.2+1))
    |d => pure<|ForInStep.done (Z Y,h.2)) >>= λh => match h.1 with
    |some u => pure u
    |none => pure (Z h.2))
def Gn(Q d:Nat)(h:Option (Option Nat)×Nat×Nat):StateT bz dR (ForInStep<|Option (Option Nat)×Nat×Nat):=(nR (Q+h.2.1) (Q+h.2.1-1) >>= λu=>match u with
 |some a=>if a=X then (if h.2.2>0 then qp (Q+h.2.1-(h.2.2+1)) (Q+h.2.1) >>= λ_=>pure (.yield (Y,h.2.1+1,0)) else pure (.yield (Y,h.2.1+1,0)))
  else nR (Q+h.2.1-1) (Q+h.2.1) >>= λu=>match u with
   |some b=>if b=X then pure (.done (Y,h.2.1,h.2.2)) else pure (.yield (Y,h.2.1+1,h.2.2+1))
   |d=>pure (.done (Z Y,h.2.1,h.2.2))
 |d=>pure (.done (Z Y,h.2.1,h.2.2)))
def sF(Q a H:Nat):StateT bz dR (Option Nat):=(liftM (PySem.rule "list.sort.descending-run") >>= λ_=>forIn [H+1:a] ((Y:Option (Option Nat)),H+1,0) (Gn Q) >>= λh=>match h.1 with
 |some u=>pure u
 |none=>if h.2.2>0 then qp (Q+h.2.1-(h.2.2+1)) (Q+h.2.1) >>= λ_=>t9 Q a h.2.1 else t9 Q a h.2.1)
def Ap(k:fO p P (ff Sz l O SS it) j){Q c H:Nat}(o:Q+c<=p){q r:Array Nat}{z:bz}(SE:mw P p Q q r)(m:eI SS it n z r)(s:1<=H)(t:H<=c)(u:∀i,Q+1<=i->i<Q+H->ba P q i<=ba P q (i-1)){D:Option Nat->bz->ao->Prop}(e:∀H b d,1<=H->H<=c->c4 p b->eI SS it n d b->(∀a,a<Q->b[a]?=q[a]?)->(∀i,Q+1<=i->i<Q+H->ba P b (i-1)<=ba P b i)->D (Z H) d j):kasC (aS Sz l) O Sv (t9 Q c H) D z j:=by
 unfold t9;refine bh (sI m λy SP=>?_);have M:=tM SE.mI (a:=Q) (i:=Q+H) ⋯;have aZ:∀a,Q<=a->a<Q+H->ba P (mq r Q<|Q+H) a=ba P q (Q+(Q+H)-1-a):=λa g f=>(l_ (by rw[M,aJ ⟨g,f⟩])).trans (SE.aZ _);refine bh (hY (Dd k o (SE.mI.rev Q<|Q+H) SP s t λi A B=>?_) ?_)
 ·rw[aZ _ ⋯ ⋯,aZ _ ⋯ ⋯];have:=u (Q+(Q+H)-1-(i-1)) ⋯ ⋯;rw[show Q+(Q+H)-1-(i-1)-1=Q+(Q+H)-1-i by lia]at this;exact this
 ·rintro h d Sr ⟨rfl,rfl,v,rfl,C,w,x,E⟩;dsimp only;exact bc (e v _ _ ⋯ w (SE.mI.rev Q<|Q+H) SP (λa U=>by rw[M,aM ⋯];exact SE.be a U) x)
def Bs(C:fO p P (ff Sz l O SS it) j){Q t H:Nat}(G:Q+t<=p){q r:Array Nat}{z:bz}(SE:mw P p Q q r)(m:eI SS it n z r)(al:1<=H)(am:H<t)(N:∀i,Q+1<=i->i<Q+(H+1)->ba P q i<=ba P q (i-1)){D:Option Nat->bz->ao->Prop}(e:∀H B u,1<=H->H<=t->c4 p B->eI SS it n u B->(∀a,a<Q->B[a]?=q[a]?)->(∀i,Q+1<=i->i<Q+H->ba P B (i-1)<=ba P B i)->D (Z H) u j):kasC (aS Sz l) O Sv (sF Q t H) D z j:=by
 have aT:∀{d s:Nat},s+1<=d->(∀i,Q+d-s<=i->i<Q+d->ba P q i=ba P q (i-1))->∀o,Q+d-(s+1)<=o->o<Q+d->ba P q o=ba P q (Q+d-(s+1)):=λ{d s} hd c o g f=>by
  have:=Gy (x:=ba P q) (g:=Q+d-(s+1)) (f:=Q+d) (λi d y=>c i ⋯ y) (o-(Q+d-(s+1))) ⋯
  rwa [show Q+d-(s+1)+(o-(Q+d-(s+1)))=o by lia]at this
 unfold sF;refine bh (nc<|h7 ?_);refine bh (hY (a:=λh u Sr=>j=Sr/\∃k d s,h=(Y,d,s)/\eI SS it n u k/\mw P p Q q k/\H+1<=d/\d<=t/\s+1<=d/\(∀i,Q+1<=i->i<Q+d->ba P q i<=ba P q (i-1))/\∀i,Q+d-s<=i->i<Q+d->ba P q i=ba P q (i-1))
  (fI (rm (λd h u Sr=>j=Sr/\∃k s,h=(Y,d,s)/\eI SS it n u k/\mw P p Q q k/\H+1<=d/\s+1<=d/\(∀i,Q+1<=i->i<Q+d->ba P q i<=ba P q (i-1))/\∀i,Q+d-s<=i->i<Q+d->ba P q i=ba P q (i-1)) t ?Td _ _ _ _ _ ⋯ ?Te ⟨rfl,r,0,rfl,m,SE,bl _,⋯,N,λi g f=>⋯⟩)) ?R)
 case Td=>
  rintro d h u Sr ap ⟨rfl,k,s,rfl,T,b,E,A,v,w⟩;unfold Gn;dsimp only;refine bh (rX C b.mI ⋯ ⋯ T ?_);dsimp only;rw[b.aZ,b.aZ];by_cases I:ba P q (Q+d)<ba P q (Q+d-1)
  ·rw[aJ ⇑I];have J:∀i,Q+1<=i->i<Q+(d+1)->ba P q i<=ba P q (i-1):=λi F S=>by
    by_cases c:i=Q+d
    ·subst c;lia
    ·exact v i F ⋯
   by_cases hd:s>0
   ·rw[aJ hd];refine bh (sI T λU SP=>?_);exact bc ⟨rfl,_,0,rfl,SP,b.rev ⋯ ⋯<|aT A w,⋯,⋯,J,λi g f=>⋯⟩
   ·rw[aM hd];exact bc ⟨rfl,k,0,rfl,T,b,⋯,⋯,J,λi g f=>⋯⟩
  ·rw[aM ⇑I];refine bh (rX C b.mI ⋯ ⋯ T ?_);dsimp only;rw[b.aZ,b.aZ];by_cases L:ba P q (Q+d-1)<ba P q (Q+d)
   ·rw[aJ ⇑L];exact bc ⟨rfl,k,d,s,rfl,T,b,E,⋯,A,v,w⟩
   ·rw[aM ⇑L];refine bc ⟨rfl,k,s+1,rfl,T,b,⋯,⋯,λi F S=>?_,λi g f=>?_⟩
    ·by_cases c:i=Q+d
     ·subst c;lia
     ·exact v i F ⋯
    ·by_cases c:i=Q+d
     ·subst c;lia
     ·exact w i ⋯ ⋯
 case Te=>
  rintro h u Sr ⟨rfl,k,s,rfl,T,b,E,A,v,w⟩;rw[show H+1+(t-(H+1))=t by lia] at *;exact⟨rfl,k,t,s,rfl,T,b,E,bl _,A,v,w⟩
 case R=>
  rintro h u Sr ⟨rfl,k,d,s,rfl,T,b,E,M,A,v,w⟩;dsimp only;by_cases hd:s>0
  ·rw[aJ hd];refine bh (sI T λU SP=>?_);exact Ap C G (b.rev ⋯ ⋯<|aT A w) SP ⋯ M v e
  ·rw[aM hd];exact Ap C G b T ⋯ M v e
def CU(Q a:Nat): StateT bz dR (Option Nat):=((forIn [1:a] ((Y:Option (Option Nat)),1) λd h => nR (Q+h.2) (Q+h.2-1) >>= λu => match u with
    |some b => if b=X then pure (ForInStep.done (Y,h.2)) else pure (ForInStep.yield (Y,h.2+1))
    |d => pure<|ForInStep.done (Z Y,h.2)) >>= λh => match h.1 with
    |some u => pure u
    |none => if (h.2==a)=X then pure (Z h.2) else if h.2>1 then nR Q (Q+h.2-1) >>= λu => match u with
      |some c => if c=X then pure (Z h.2) else qp Q (Q+h.2) >>= λ_ => sF Q a h.2
      |d => pure Y
      else sF Q a h.2)
def OV(Q a:Nat):countRun' Q a=CU Q a:=by
 kernel_rfl
def KA(r:fO p P (ff Sz l O SS it) j){q:Array Nat}(b:c4 p q){Q d:Nat}(t:1<=d)(v:Q+d<=p){z:bz}(m:eI SS it n z q){D:Option Nat->bz->ao->Prop}(e:∀H k w,1<=H->H<=d->c4 p k->eI SS it n w k->(∀a,a<Q->k[a]?=q[a]?)->(∀i,Q+1<=i->i<Q+H->ba P k (i-1)<=ba P k i)->D (Z H) w j):
  kasC (aS Sz l) O Sv (countRun' Q d) D z j:=by
 rw[OV];unfold CU;have B:mw P p Q q q:=⟨b,λ_ W=>rfl,λ_=>rfl⟩;refine bh (hY (Dd r v b m (bl _) t λi g f=>⋯) ?_);rintro h w Sr ⟨rfl,rfl,H,rfl,x,C,u,G⟩;dsimp only;by_cases c:H=d
 ·rw[aJ ⇑c];exact bc (e H q _ x C b m (λ_ W=>rfl) u)
 rw[aM ⇑c];have I:ba P q (Q+H)<ba P q (Q+H-1):=G.resolve_left c;by_cases E:H>1
 ·rw[aJ E];refine bh (rX r b ⋯ ⋯ m ?_);dsimp only;by_cases F:ba P q Q<ba P q (Q+H-1)
  ·rw[aJ ⇑F];exact bc (e H q _ x C b m (λ_ W=>rfl) u)
  ·rw[aM ⇑F];have up:∀s,s<H->ba P q Q<=ba P q (Q+s)/\ba P q (Q+s)<=ba P q (Q+H-1):=by
    have J:∀s,s<H->ba P q Q<=ba P q (Q+s):=λs=>by
     induction s with
     |zero=>intro W;exact jX _
     |succ s y=>
      intro hd;have g:=u (Q+(s+1)) ⋯ ⋯;rw[show Q+(s+1)-1=Q+s by lia]at g;have:=y ⋯;lia
    have L:∀s,s<H->ba P q (Q+H-1-s)<=ba P q (Q+H-1):=λs=>by
     induction s with
     |zero=>intro W;exact jX _
     |succ s y=>
      intro hd;have g:=u (Q+H-1-s) ⋯ ⋯;rw[show Q+H-1-s-1=Q+H-1-(s+1) by lia]at g;have:=y ⋯;lia
    intro s hd;refine⟨J s hd,?_⟩;have:=L (H-1-s) ⋯
    rwa [show Q+H-1-(H-1-s)=Q+s by lia]at this
   have A:∀o,Q<=o->o<Q+H->ba P q o=ba P q Q:=λo g f=>by
    have:=up (o-Q) ⋯;rw[show Q+(o-Q)=o by lia]at this;lia
   refine bh (sI m λR SP=>?_);exact Bs (q:=q) r v (B.rev (bl _) ⋯ A) SP x ⋯ (λi M N=>by
    by_cases c:i=Q+H
    ·subst c;lia
    ·rw[A i ⋯ ⋯,A (i-1) ⋯ ⋯];exact jX _) e
 rw[aM E];obtain rfl:H=1:=⋯
 exact Bs (q:=q) r v B m (bl _) ⋯ (λi M N=>by
  obtain rfl:i=Q+1:=⋯
  exact yD I) e
end
section
variable{Sz:bA}{l:bk}{O:bw}{Sv:ae->ao->Prop}{SS:gA}{it:Array bf}{P:Nat->Int}{p:Nat}{j:ao}{n:Array (Nat×Nat×Nat)}
variable{q:Array Nat}
theorem el.same:∀{I L:List (Nat×Nat×Nat)}{g f:Nat},el P q g I f->(I.map λd=>(d.1,d.2.1))=(L.map λd=>(d.1,d.2.1))->el P q g L f
 |[],[],g,f,e,_=>e
 |[],_::_,g,f,e,c=>by cases c
 |_::_,[],g,f,e,c=>by cases c
 | (d,k,j)::I,(l,m,n)::L,g,f,e,c=>by
  rw[cE,cE]at c;injection c with h i;injection h with a b;dsimp only at a b;subst a;subst b;exact⟨e.1,e.2.1,e.2.2.1,e.2.2.2.same i⟩
def Jv(w:Array (Nat×Nat×Nat))(a b:Nat):(w.toList.map λd=>(d.1,d.2.1))=((w.modify a λd=>(d.1,d.2.1,b)).toList.map λd=>(d.1,d.2.1)):=by
 apply pz;intro i;rw[gq,gq,gU,gU,Array.getElem?_modify];split
 ·rw[Option.map_map];rfl
 ·rfl
def hU.congr{r:Array Nat}{Q H:Nat}(e:hU P q Q H)(M:∀a,Q<=a->ba P r a=ba P q a):hU P r Q H:=λa i g f h=>by
 rw[M a g,M i ⋯];exact e a i g f h
def NC{aA:hp}{O:bw}{Sv:ae->ao->Prop}{A SU:Type}{h:Nat->Prop}{c:∀H,Decidable (h H)}{b Tw:Nat->StateT A dR SU}{D:SU->A->ao->Prop}{j:ao}(R:Nat->A->Prop)(m:∀H z,R H z->kasC aA O Sv (Tw H) D z j)(a:(∀H z,R H z->kasC aA O Sv (Tw H) D z j)->∀H z,h H->R H z->kasC aA O Sv (b H) D z j):∀H z,R H z->kasC aA O Sv (if h H then b H else Tw H) D z j:=λH z q=>
 if e:h H then by rw[aJ e];exact a m H z e q else by rw[aM e];exact m H z q
variable{D:Unit->bz->ao->Prop}
def KY(A:fO p P (ff Sz l O SS it) j)(C:2<=p)(a1:∀u b,c4 p u->i0 P u p->arrOf b=u.map (bb it)->hA b=Y->D () b j):kasC (aS Sz l) O Sv sortRuns' D (uU SS it (range p).toArray) j:=by
 rw[sortRuns'_eq];refine bh (j6 ?_);dsimp only;have bd:(arrOf<|uU SS it (range p).toArray).size=p:=by
  show ((range p).toArray.map<|bb it).size=p;simp
 simp only[bd];refine bh (hY (a:=λh b Sr=>j=Sr/\h=(Y,p)/\∃n q,c4 p q/\eI SS it n b q/\el P q 0 n.toList p)
  (fI (gC (λd h b Sr=>j=Sr/\∃Q n q,h=(Y,Q)/\d<=Q/\Q<=p/\c4 p q/\eI SS it n b q/\el P q 0 n.toList Q) ?step _ 0 _ _ _ ?fin ⟨rfl,0,#[],(range p).toArray,rfl,bl _,⋯,List.Perm.refl _,⟨rfl,rfl,rfl,rfl⟩,rfl⟩)) ?after)
 case fin=>
  rintro h b Sr ⟨rfl,Q,n,q,rfl,g,f,s,c,x⟩;have:Q=p:=⋯
  subst this;exact⟨rfl,rfl,n,q,s,c,x⟩
 case after=>
  rintro h b Sr ⟨rfl,rfl,n,q,t,m,Su⟩;dsimp only;refine bh (hY (a:=λh b Sr=>j=Sr/\h=(Y,())/\∃q,c4 p q/\i0 P q p/\arrOf b=q.map (bb it)/\hA b=Y)
   (fI (gC (λd h b Sr=>j=Sr/\h=(Y,())/\∃n q,c4 p q/\eI SS it n b q/\el P q 0 n.toList p/\n.size+d<=p) ?B _ 0 _ _ _ ?f2 ⟨rfl,rfl,n,q,t,m,Su,by have:=Su.le;rw[fy]at this;lia⟩)) ?a2)
  case a2=>
   rintro h b Sr ⟨rfl,rfl,q,g,f,h,s⟩;exact bc (a1 q _ g f h s)
  case f2=>
   rintro h b Sr ⟨rfl,rfl,n,q,t,m,Su,be⟩;have c:n.toList=[]:=o7 (by rw[fy];lia);rw[c]at Su;have:0=p:=Su;lia
  case B=>
   rintro d h b Sr ⟨rfl,rfl,n,q,t,m,Su,be⟩;refine bh (j6 ?_);by_cases c:(hT b).size<=1
   ·rw[aJ c];refine bc ⟨rfl,rfl,q,t,?_,m.a,m.f⟩;rw[m.p]at c;have bi:n.toList.length<=1:=by rw[fy];exact c
    match T:n.toList,bi with
    |[],_=>
     rw[T]at Su;have:0=p:=Su;lia
    |[(d,k,U)],_=>
     rw[T]at Su;let@⟨rfl,_,bm,bn⟩:=Su;have:0+k=p:=bn;exact λa i bs co=>bm a i (gI _) bs ⋯
    |_::_::_,e=>exact absurd e ↥0
   ·rw[aM c];rw[m.p]at c;have bv:∀L,L+1<n.size->kasC (aS Sz l) O Sv (uQ L) (λf v B=>f=X/\j=B/\∃n q,c4 p q/\eI SS it n v q/\el P q 0 n.toList p/\n.size+(d+1)<=p) b j:=λL ca=>
     CT A t m ca Su (bl _) λM u cd g f h s al=>⟨rfl,rfl,M,u,g,f,s,⋯⟩;refine bh (hY (bv _ ?_) ?_)
    ·rw[m.p];have:∀(h:Prop) [Decidable h],(if h then n.size-2-1 else n.size-2)+1<n.size:=λh W=>by split<;>lia
     exact this _
    ·rintro f v B ⟨rfl,rfl,ce⟩;rw[aM ∅];exact bc ⟨rfl,rfl,ce⟩
 case step=>
  rintro d h b Sr ⟨rfl,Q,n,q,rfl,cr,cs,t,m,Su⟩;dsimp only;by_cases am:Q >= p
  ·rw[aJ am];have:Q=p:=⋯
   subst this;exact bc ⟨rfl,rfl,n,q,t,m,Su⟩
  rw[aM am];refine bh (KA A t ⋯ ⋯ m ?_);intro H an z w E F SD ap G;have r:H<=p-Q/\1<=H/\∃q,c4 p q/\eI SS it n z q/\el P q 0 n.toList Q/\hU P q Q H:=⟨E,w,an,F,SD,Su.congr λa W f=>l_<|ap a f,Cn G⟩;dsimp only;clear G ap SD F w E;revert H z;refine NC (λH z=>H<=p-Q/\1<=H/\∃q,c4 p q/\eI SS it n z q/\el P q 0 n.toList Q/\hU P q Q H) ?_ ?_
  ·intro H v r;let@⟨E,w,⟨@Tj,I,SP,b0,J⟩⟩:=r;refine bh (j6 ?_);rcases db:(hT v).back? with _|⟨ds,dL,eq⟩
   ·dsimp only;refine bh (km ?_);refine bc ⟨rfl,Q+H,n.push (Q,H,0),Tj,rfl,⋯,⋯,I,⟨SP.k,SP.a,by show (hT v).push _=_;rw[SP.p],SP.f⟩,?_⟩;rw[Eo];exact el.app.mpr ⟨Q,b0,rfl,⋯,J,rfl⟩
   ·dsimp only;refine bh (hY (a:=λh b Sr=>j=Sr/\h=(Y,())/\∃n q,c4 p q/\eI SS it n b q/\el P q 0 n.toList Q/\hU P q Q (H))
     (fI<|gC (λd h b Sr=>j=Sr/\h=(Y,())/\∃n q,c4 p q/\eI SS it n b q/\el P q 0 n.toList Q/\hU P q Q (H)) ?_ _ 0 _ _ _ (λ_ W W U=>U) ⟨rfl,rfl,n,Tj,I,SP,b0,J⟩) ?_)
    ·rintro y h b Sr ⟨rfl,rfl,n,q,t,m,Su,O⟩;refine bh (j6 ?_);by_cases c:(hT b).size>1
     ·rw[aJ c];rcases ev:(hT b)[(hT b).size-2]? with _|⟨g,f,ex⟩
      ·dsimp only;exact bc ⟨rfl,rfl,n,q,t,m,Su,O⟩
      ·dsimp only;split
       ·exact bc ⟨rfl,rfl,n,q,t,m,Su,O⟩
       ·refine bh (CT A t m (by rw[m.p]at c ⊢;lia) Su ⋯ ?_);intro M u cd g f h s al;rw[aM ∅];exact bc ⟨rfl,rfl,M,u,g,f,s,O.congr al⟩
     ·rw[aM c];dsimp only;exact bc ⟨rfl,rfl,n,q,t,m,Su,O⟩
    ·rintro h b Sr ⟨rfl,rfl,n,q,t,m,Su,O⟩;dsimp only;refine bh (km ?_);refine bh (km ?_);refine bc ⟨rfl,Q+H,(n.modify (n.size-1) _).push (Q,H,0),q,rfl,⋯,⋯,t,⟨m.k,m.a,by show ((hT b).modify ((hT b).size-1) _).push _=_;rw[m.p],m.f⟩,?_⟩;rw[Eo];exact el.app.mpr ⟨Q,Su.same<|Jv _ _ _,rfl,⋯,O,rfl⟩
  ·intro S H z fd r;let@⟨E,w,⟨@an,F,SD,ch,G⟩⟩:=r;refine bh (nc<|h7 ?_);have N:H<=min (p-Q) (minRun' p p 0):=⋯
   have as:min (p-Q) (minRun' p p 0)<=p-Q:=⋯
   generalize min (p-Q) (minRun' p p 0)=ci at N as ⊢;refine bh (LM A F ⋯ w N G SD ?_);intro Tj v I SP cl J;rw[aM ∅];exact S ci v ⟨as,ew w N,Tj,I,SP,ch.congr λa W f=>l_<|cl a f,J⟩
def Jg(c:fO p P (ff Sz l O SS it) j)(C:2<=p)(up:p<1001\/∀i,1<=i->i<p->P (i-1)<=P i)(d:∀a b,c4 p a->i0 P a p->arrOf b=a.map (bb it)->hA b=Y->D () b j):kasC (aS Sz l) O Sv sortRuns' D (uU SS it (range p).toArray) j:=KY c C d
end
end L2
namespace L2
open Spec PyProof.Rows
section
variable{b:aL}{G:List (af×bj)}{A:a3}{m:ax}{j:ao}{Sq:a5}
variable{TB:List af}{S5:Nat}
def aH.Ib{S:af}{w:List aj}(E:aH b G A m j)(a:∀f∈TB,jV b G m f)(o:∀f n,f∉TB->j.heap.get? f=Z n->Sq.get? f=Z n)(i:j.heap.objs.size<=S)(new:e7 b.prog b.w (upd m S<|.tup w) Sq S (.tup w)):aH b G A (upd m S<|.tup w) {j with heap:=Sq,toks:=S5}:=by
 have e:m S=Y:=E.aY.fresh i;have s:∀f n,j.heap.get? f=Z n->f≠S:=λf n c=>dU (eX (cn c) i);have k:∀f L,m f=Z L->f∉TB:=λf L c z=>by rw[(a f z).1]at c;cases c
 refine E.step (D:=j.gens) (R:=j.drawn) (TB:=TB) (λf d=>⟨(a f d).2.2.2.1,(a f d).2.1,(a f d).2.2.2.2.1,(a f d).2.2.2.2.2⟩) (λf n W W h c W=>o f n h c) (λf n W W h c W=>⟨n.slots,o f n h c⟩)
  (λf n W c p=>by rw[c2 (s f n c)];exact p) (λf n h c=>⟨n,o f n h c⟩) (λf SI c=>by rw[c2 (g_ c e)];exact c) (λf n L c=>by rw[c2 (g_ c e)];exact c)
  (λf SJ c=>⟨#[],by rw[c2 (g_ c e),c];simp⟩) (λH t=>?_) (λg n c=>?_) E.bare
 ·let⟨n,Sx,@Tg,v,u⟩:=t;exact⟨n,Sx,Tg,o _ n (λz=>(a _ z).2.1 rfl) v,u⟩
 ·by_cases q:g=S
  ·subst q;rw[eT]at c;cases c;exact new
  ·rw[c2 q]at c;refine (E.aY g n c).i4 (λf L d r=>o f L ?_ r) (λf r=>by rw[c2 (g_ r e)];exact r) λf SI r=>by rw[c2 (g_ r e)];exact r
   rcases d with z|z
   ·rw[z];exact k g n c
   ·exact k f _ z
def aH.Qp(E:aH b G A m j)(a:∀f∈TB,jV b G m f)(o:∀f n,f∉TB->j.heap.get? f=Z n->Sq.get? f=Z n):aH b G A m {j with heap:=Sq,toks:=S5}:=by
 have h:∀f L,m f=Z L->f∉TB:=λf L c z=>by rw[(a f z).1]at c;cases c
 refine E.step (D:=j.gens) (R:=j.drawn) (TB:=TB) (λf d=>⟨(a f d).2.2.2.1,(a f d).2.1,(a f d).2.2.2.2.1,(a f d).2.2.2.2.2⟩) (λf n W W e c W=>o f n e c) (λf n W W e c W=>⟨n.slots,o f n e c⟩)
  (λf n W W p=>p) (λf n e c=>⟨n,o f n e c⟩) (λf SI c=>c) (λf n L c=>c) (λf SJ c=>⟨#[],by rw[c];simp⟩) (λH i=>?_) (λg n c=>?_) E.bare
 ·let⟨n,Sx,@Tg,k,u⟩:=i;exact⟨n,Sx,Tg,o _ n (λz=>(a _ z).2.1 rfl) k,u⟩
 ·refine (E.aY g n c).i4 (λf L d r=>o f L ?_ r) (λf r=>r) λf SI r=>r;rcases d with z|z
  ·rw[z];exact h g n c
  ·exact h f _ z
end
section
variable{Sz:bA}{l:bk}{O:bw}{Sv:ae->ao->Prop}{j:ao}
variable{a:Nat}{S:Array ae}{D:ae->ao->Prop}
def wo{it I:af}{d:ae}(e:j.heap.IsTupleIter it I a)(g:j.heap.IsTuple I S)(h:S[a]?=Z d)(r:∀Sq,Sq.IsTupleIter it I (a+1)->a5.SameBut it j.heap Sq->D d {j with heap:=Sq}):wpAny (aS Sz l) O (a_.SmallTypes.nextOf<|.ref it) D Sv j:=by
 let⟨@n,c,i,b⟩:=id e;let⟨@ol,g1,W,⟨@m,k⟩⟩:=g;unfold a_.SmallTypes.nextOf;refine aw (k6 (name:=aD.ofString "__next__") e.typeIs tG<|iH tG e.typeIs zI ?f<|EV _)
 case f=>
  show wpAny _ _ (mr (.ref it) 0 >>= _) _ _ j;refine aw (hI c b (x:=.ref I) rfl ?_);show wpAny _ _ (if (ae.ref I==ae.none)=X then _ else _) _ _ j;rw[aM (show ¬ (ae.ref I==ae.none)=X by intro f;cases f)];show wpAny _ _ (mr (.ref it) 1 >>= _) _ _ j;refine aw (hI c b (x:=.int a 0) rfl ?_);show wpAny _ _ (qb (.ref I) >>= _) _ _ j;refine aw (iN g1 k ?_);simp only[qn,h];refine aw (uC c b ↥0 (aW ⟨d,rfl,aW (r _ ⟨_,l2 _ c<|zO<|uK b _,(GG ..).trans i,by rw[uK b];simp[kE]⟩<|jB ..)⟩))
def Ct{it I:af}(i:O.handled=Y)(b:j.heap.IsTupleIter it I a)(k:j.heap.IsTuple I S)(m:S[a]?=Y)(r:∀Sq c,a5.ExtBut it j.heap Sq->(∃n,Sq.get? c=Z n/\n.cls=.type "StopIteration")->Sv (.ref c) {j with heap:=Sq}):wpAny (aS Sz l) O (a_.SmallTypes.nextOf<|.ref it) D Sv j:=by
 let⟨@n,e,p,f⟩:=id b;let⟨@ol,g1,W,⟨@q,o⟩⟩:=k;unfold a_.SmallTypes.nextOf;refine aw (k6 (name:=aD.ofString "__next__") b.typeIs tG<|iH tG b.typeIs zI ?h<|EV _)
 case h=>
  show wpAny _ _ (mr (.ref it) 0 >>= _) _ _ j;refine aw (hI e f (x:=.ref I) rfl ?_);show wpAny _ _ (if (ae.ref I==ae.none)=X then _ else _) _ _ j;rw[aM (show ¬ (ae.ref I==ae.none)=X by intro h;cases h)];show wpAny _ _ (mr (.ref it) 1 >>= _) _ _ j;refine aw (hI e f (x:=.int a 0) rfl ?_);show wpAny _ _ (qb (.ref I) >>= _) _ _ j;refine aw (iN g1 o ?_);simp only[qn,m];refine aw (h7 (aw (uC e f ↥0 ?_)));show wpAny _ _ (uh (.type "StopIteration") [] >>= _) _ _ _;apply aw;simp only[uh,yp];refine aw (ib (aw (m:=ur _ _) (s_ (a:=ae.none) (by first|rfl|(simp only[ur];rfl)) (ib ?_ (by size_fits)))) (by size_fits));simp only[raiseNew];apply aw;apply B6;rw[show O.in1.handled=Y from i];refine aw (m:=pure _) (aW<|wpAny_throw ?_);exact r _ _ (((jB ..).extBut.push _).push _) ⟨_,dx _ rfl,rfl⟩
end
section
variable{Sz:bA}{l:bk}{O:bw}{Sv:ae->ao->Prop}{j:ao}
variable{e Sq:a5}{g:af}
def iU{I:af}{a:Nat}(d:e.IsTupleIter g I a)(o:∀n,e.get? g=Z n->Sq.get? g=Z n):Sq.IsTupleIter g I a:=let ⟨n,c,u⟩:=d;⟨n,o n c,u⟩
variable{w:Array ae}
def pk(d:e.IsTuple g w)(o:∀n,e.get? g=Z n->Sq.get? g=Z n):Sq.IsTuple g w:=let ⟨n,c,u⟩:=d;⟨n,o n c,u⟩
variable{g f:ae}{S6 S8:Nat}{SI:Array ae}
def I6{a da cS e i aX bp:af}{d y:ae}{D:ae->ao->Prop}(B:tf a da cS e i aX bp)(q:ji j.heap a da cS .none)(T:h9 j.heap da (.ref e) (.ref i))(U:h9 j.heap cS g f)(t:j.heap.IsTupleIter e aX S6)(C:j.heap.IsTupleIter i bp S8)(al:j.heap.IsTuple aX w)(am:j.heap.IsTuple bp SI)(an:w[S6]?=Z d)(ap:SI[S8]?=Z y)(as:∀Sq,ji Sq a da cS (kE j.heap.objs.size)->h9 Sq cS d y->Sq.IsTupleIter e aX (S6+1)->Sq.IsTupleIter i bp (S8+1)->h9 Sq j.heap.objs.size d y->
   (∀h n,h≠a->h≠cS->h≠e->h≠i->j.heap.get? h=Z n->Sq.get? h=Z n)->D (.ref j.heap.objs.size) {j with heap:=Sq}):
  wpAny (aS Sz l) O (a_.«zip.__next__» ⟨[.ref a],[]⟩) (λfin Sr=>∃v,fin=.done (.ret v)/\D v Sr) Sv j:=by
 show wpAny _ _ (mr (.ref a) 2 >>= _) _ _ _;refine aw (hI q rfl (x:=.bool ar) rfl ?_);show wpAny _ _ (mr (.ref a) 3 >>= _) _ _ _;refine aw (hI q rfl (x:=.ref da) rfl<|aw<|iN T rfl ?_);show wpAny _ _ (a_.SmallTypes.ownedTupleIsFree (.ref a) >>= _) _ _ _;apply aw;unfold a_.SmallTypes.ownedTupleIsFree;refine aw (hI q rfl (x:=.none) rfl<|aW ?_);simp only[hx];refine aw (h7 (aw (hI q rfl (x:=.ref cS) rfl (aw (ou q ↥0 λJ A k=>?_)))));replace A:ji J a da cS .ellipsis:=A;apply aw;simp only[xl,Ay,sP,Cj];refine aw (aw<|sL ?_);show wpAny _ _ (a_.SmallTypes.nextOf (.ref e) >>= _) _ _ _;refine aw (wo (j:={j with heap:=J}) (iU t λn c=>k.extBut _ n B.i1z c) (pk al λn c=>k.extBut _ n B.l1z c) an λE a1 o=>aW ?_);have Tn:h9 E cS g f:=o.extBut _ _ B.TOi1 (k.extBut _ _ B.TOz U);refine aw (iN (s:={j with heap:=E}) Tn rfl<|aw<|vN (s:={j with heap:=E}) Tn λL Tf p=>?_);replace Tf:h9 L cS d f:=Tf;refine aw (ml<|aW<|aw<|aw<|sL ?_);show wpAny _ _ (a_.SmallTypes.nextOf (.ref i) >>= _) _ _ _;refine aw (wo (j:={j with heap:=L}) (iU C λn c=>p.extBut _ n B.TOi2.symm<|o.extBut _ n B.i12.symm<|k.extBut _ n B.i2z c) (pk am λn c=>p.extBut _ n B.l2TO<|o.extBut _ n B.l2i1<|k.extBut _ n B.l2z c) ap λF a2 r=>aW ?_);have S0:h9 F cS d f:=r.extBut _ _ B.TOi2 Tf;refine aw (iN (s:={j with heap:=F}) S0 rfl<|aw<|vN (s:={j with heap:=F}) S0 λb S_ s=>?_);replace S_:h9 b cS d y:=S_;refine aw (ml<|aW<|aW<|aw<|iN (s:={j with heap:=b}) S_ rfl<|aw<|z5 ?_);have M:b.objs.size=j.heap.objs.size:=by rw[s.1,r.1,p.1,o.1,k.1]
 have N:ji b a da cS .ellipsis:=s.extBut _ _ B.TOz.symm (r.extBut _ _ B.i2z.symm<|p.extBut _ _ B.TOz.symm<|o.extBut _ _ B.i1z.symm A);have bd:∀h n,h≠a->h≠cS->h≠e->h≠i->j.heap.get? h=Z n->b.get? h=Z n:=λh n m u G H c=>s.extBut _ _ u (r.extBut _ _ H<|p.extBut _ _ u<|o.extBut _ _ G<|k.extBut _ _ m c);have dp:b.IsTupleIter e aX (S6+1):=iU a1 λn c=>s.extBut _ n B.TOi1.symm (r.extBut _ n B.i12<|p.extBut _ n B.TOi1.symm c);have di:b.IsTupleIter i bp (S8+1):=iU a2 λn c=>s.extBut _ n B.TOi2.symm c;have P:a<b.objs.size:=cn N;show wpAny _ _ (a_.SmallTypes.ownedTupleHandOut (.ref a) (.ref b.objs.size) >>= _) _ _ _;apply aw;unfold a_.SmallTypes.ownedTupleHandOut;have be:ji (b.push {cls:=.type "tuple",data:=.seq #[d,y]}) a da cS .ellipsis:=cw _ N;refine aw (ou be ↥0 λbi I Q=>?_);replace I:ji bi a da cS (kE b.objs.size):=I;refine ou I ↥0 λx z R=>?_;replace z:ji x a da cS (kE b.objs.size):=z;have up:∀h n,h≠a->b.get? h=Z n->x.get? h=Z n:=λh n m c=>R.extBut _ _ m (Q.extBut _ _ m<|cw _ c);have S:h9 x b.objs.size d y:=R.extBut _ _ (lH P) (Q.extBut _ _ (lH P)<|dx _ rfl);rw[M]at z S;refine aW ⟨_,rfl,?_⟩;show D (.ref b.objs.size) _;rw[M];exact as x z (up _ _ B.TOz S_) (iU dp λn c=>up _ n B.i1z c) (iU di λn c=>up _ n B.i2z c) S λh n m u G H c=>up h n m (bd h n m u G H c)
def Qr{a da cS o p aX bp:af}{D:PySem.Fin->ao->Prop}(I:O.handled=Y)(B:tf a da cS o p aX bp)(q:ji j.heap a da cS .none)(R:h9 j.heap da (.ref o) (.ref p))(S:h9 j.heap cS g f)(t:j.heap.IsTupleIter o aX S6)(C:j.heap.IsTupleIter p bp S8)(J:j.heap.IsTuple aX w)(T:j.heap.IsTuple bp SI)(U:w[S6]?=Y\/SI[S8]?=Y)(L:∀Sq c,(∀h n,h≠a->h≠cS->h≠o->h≠p->j.heap.get? h=Z n->Sq.get? h=Z n)->(∃n,Sq.get? c=Z n/\n.cls=.type "StopIteration")->Sv (.ref c) {j with heap:=Sq}):
  wpAny (aS Sz l) O (a_.«zip.__next__» ⟨[.ref a],[]⟩) D Sv j:=by
 show wpAny _ _ (mr (.ref a) 2 >>= _) _ _ _;refine aw (hI q rfl (x:=.bool ar) rfl ?_);show wpAny _ _ (mr (.ref a) 3 >>= _) _ _ _;refine aw (hI q rfl (x:=.ref da) rfl<|aw<|iN R rfl ?_);show wpAny _ _ (a_.SmallTypes.ownedTupleIsFree (.ref a) >>= _) _ _ _;apply aw;unfold a_.SmallTypes.ownedTupleIsFree;refine aw (hI q rfl (x:=.none) rfl<|aW ?_);simp only[hx];refine aw (h7 (aw (hI q rfl (x:=.ref cS) rfl (aw (ou q ↥0 λy x b=>?_)))));replace x:ji y a da cS .ellipsis:=x;apply aw;simp only[xl,Ay,sP,Cj];refine aw (aw<|sL ?_);show wpAny _ _ (a_.SmallTypes.nextOf (.ref o) >>= _) _ _ _;cases z:w[S6]? with
 |none=>
  refine aw (Ct (j:={j with heap:=y}) I (iU t λn c=>b.extBut _ n B.i1z c) (pk J λn c=>b.extBut _ n B.l1z c) z λs c i A=>?_);let⟨@E,k,u⟩:=A;have M:ji s a da cS .ellipsis:=i _ _ B.i1z.symm x;have F:c≠a:=λr=>by subst r;rw[M]at k;cases k;simp at u
  refine ou M ↥0 λG W m=>L G c (λh n v W H W r=>m.extBut _ _ v<|i _ _ H<|b.extBut _ _ v r) ⟨E,m.extBut _ _ F k,u⟩
 |some d=>
  have al:SI[S8]?=Y:=by
   rcases U with e|e
   ·rw[z]at e;cases e
   ·exact e
  refine aw (wo (j:={j with heap:=y}) (iU t λn c=>b.extBut _ n B.i1z c) (pk J λn c=>b.extBut _ n B.l1z c) z λs a1 i=>aW ?_);have Tn:h9 s cS g f:=i.extBut _ _ B.TOi1 (b.extBut _ _ B.TOz S);refine aw (iN (s:={j with heap:=s}) Tn rfl<|aw<|vN (s:={j with heap:=s}) Tn λG Tf m=>?_);refine aw (ml<|aW<|aw<|aw<|sL ?_);show wpAny _ _ (a_.SmallTypes.nextOf (.ref p) >>= _) _ _ _;refine aw (Ct (j:={j with heap:=G}) I (iU C λn c=>m.extBut _ n B.TOi2.symm<|i.extBut _ n B.i12.symm<|b.extBut _ n B.i2z c) (pk T λn c=>m.extBut _ n B.l2TO<|i.extBut _ n B.l2i1<|b.extBut _ n B.l2z c) al λam c N A=>?_);let⟨@E,k,u⟩:=A;have P:ji am a da cS .ellipsis:=N _ _ B.i2z.symm (m.extBut _ _ B.TOz.symm<|i.extBut _ _ B.i1z.symm x);have F:c≠a:=λr=>by subst r;rw[P]at k;cases k;simp at u
  refine ou P ↥0 λan W Q=>L an c (λh n v ap H as r=>Q.extBut _ _ v<|N _ _ as<|m.extBut _ _ ap<|i.extBut _ _ H<|b.extBut _ _ v r) ⟨E,Q.extBut _ _ F k,u⟩
end
variable{j:ao}{Ti:b0}{SV Tp SX:List Nat}{own SJ:List aD}{Tr S1 h c f g:bu}{TG:List b9}{Sv:nY}{z:b9}{TH A:a3}{fd:gp}{d:aD}{p TO:Nat}{Sp w:List aj}{J:List ab}{aO SN O Su SW F S3 Ss N:List af}{D:cI}{u Sx:List bu}{S5:ek}{b:aL}{SP SD T m:ax}{v:aj}{q SK:Pos}{So:Φ}
def jY(e:a5)(aX bp:af):a5:=(((((e.push {cls:=.type "tuple_iterator",data:=.fields #[.ref aX,.int 0 0]}).push {cls:=.type "tuple_iterator",data:=.fields #[.ref bp,.int 0 0]}).push
 {cls:=.type "tuple",data:=.seq #[.ref e.objs.size,.ref (e.push {cls:=.type "tuple_iterator",data:=.fields #[.ref aX,.int 0 0]}).objs.size]}).push {cls:=.type "tuple",data:=.seq #[.none,.none]}))
def PH(aX bp:af)(w SI:Array ae):
    Meets (a_.«zip.__new__» ⟨[.type "zip", .ref aX,.ref bp],[]⟩) (λ_ Su j => j.heap.IsTuple aX w /\ j.heap.IsTuple bp SI /\
      Su (.ok<|.ret<|.ref (jY j.heap aX bp).objs.size) {j with heap:=(jY j.heap aX bp).push {cls:=.type "zip", data:=.fields #[.none,.bool ar,.bool ar,.ref ((j.heap.push {cls:=.type "tuple_iterator", data:=.fields #[.ref aX,.int 0 0]}).push {cls:=.type "tuple_iterator", data:=.fields #[.ref bp,.int 0 0]}).objs.size,
        .ref (((j.heap.push {cls:=.type "tuple_iterator", data:=.fields #[.ref aX,.int 0 0]}).push {cls:=.type "tuple_iterator", data:=.fields #[.ref bp,.int 0 0]}).push
  {cls:=.type "tuple", data:=.seq #[.ref j.heap.objs.size,.ref (j.heap.push {cls:=.type "tuple_iterator", data:=.fields #[.ref aX,.int 0 0]}).objs.size]}).objs.size]} }) :=
  .of_wp λSz l O Su j e => by
    let⟨a,M,s,Tb,P⟩:=j;let@⟨b,d,e⟩:=e;have h:=sub_zip;have f:a5.IsTuple (ao.heap ⟨a,M,s,Tb,P⟩) aX w:=b;have g:a5.IsTuple (ao.heap ⟨a.push {cls:=.type "tuple_iterator", data:=.fields #[.ref aX,.int 0 0]}, M,s,Tb,P⟩) bp SI:=pk d λn c => cw _ c
    wp_walk using wpAny_pyIter_tuple f,wpAny_pyIter_tuple g
    exact ⟨_,rfl,e⟩
def sR(So:Φ)(g f:af):e9:=(
 ⟨λa m=>∃w SI d y,cu So m g w/\cu So m f SI/\w[a]?=Z d/\SI[a]?=Z y,
  λa m v T=>∃S d y,m S=Y/\v=.ref S/\T=upd m S (.tup [d,y])/\(∀w,cu So m g w->w[a]?=Z d)/\(∀SI,cu So m f SI->SI[a]?=Z y),
  λa m=>∃w SI,cu So m g w/\cu So m f SI/\(w.length<=a\/SI.length<=a)⟩)
def BI(g f d da cS b c:af)(a:Nat)(e:a5):Prop:=(ji e d da cS .none/\h9 e da (.ref b) (.ref c)/\(∃q r,h9 e cS q r)/\e.IsTupleIter b g a/\e.IsTupleIter c f a)
theorem Ot{R:bA}{l:bk}(g f k da cS s x:af)(B:tf k da cS s x g f):
  qU R l So (.Tuple Sx TO SK) (sR So g f) [k,da,cS,s,x] k (BI g f k da cS s x) where
 mem:=by simp
 obj:=λa e z h i=>by
  let@⟨t,C,⟨q,@r,p⟩,⟨@S0,al,_,bv⟩,⟨@S_,am,_,ca⟩⟩:=z;simp only[cq,nr,iZ]at i;rcases i with rfl|rfl|rfl|rfl|rfl
  ·exact⟨_,t,λv c=>by cases c⟩
  ·exact⟨_,C,λv c=>by cases c⟩
  ·exact⟨_,p,λv c=>by cases c⟩
  ·exact⟨_,al,λv c=>by rw[bv]at c;cases c⟩
  ·exact⟨_,am,λv c=>by rw[ca]at c;cases c⟩
 keep:=λa e Sq z o=>by
  let@⟨t,C,⟨q,@r,p⟩,F,H⟩:=z;exact⟨o k ↥0 _ t,o da ↥0 _ C,⟨q,r,o cS ↥0 _ p⟩,iU F λn c=>o s ↥0 n c,iU H λn c=>o x ↥0 n c⟩
 item:=by
  intro b an ap as i a G j A m Sv E N z a1;subst an ap as;let⟨w,SI,d,@y,P,Q,bi,bm⟩:=a1;let⟨@SG,a2,q,I⟩:=E.tuple P;let⟨@bd,be,Tj,cd⟩:=E.tuple Q;let⟨@L,ce,ch⟩:=a2.get bi;let⟨@bn,ci,cl⟩:=be.get bm;have co:=z;let@⟨t,C,⟨bU,@jI,p⟩,F,H⟩:=z;have J:j.TypeIs (.ref k) "zip" := ⟨_,t,rfl⟩;unfold hK;refine aw (q7 (k6 (name:=aD.ofString "__next__") J tV (iH tV J z4
   (I6 (D:=λv Sr=>wpAny (aS b.prog b.w) b.A (pure<|Z v) (λu cr=>∃L,u=Z L/\wpAny (aS b.prog b.w) b.A (qN (.Tuple Sx TO SK) (.ref k) L) (λ_ bs=>∃d T,aH b G A T bs/\cc d L/\(sR b.K g f).qa a m d T/\BI g f k da cS s x (a+1) bs.heap/\∀f∈[k,da,cS,s,x],T f=Y) Sv cr) Sv Sr)
    B t C p F H (show j.heap.IsTuple g SG.toArray from q) (show j.heap.IsTuple f bd.toArray from Tj) (d:=L) (y:=bn) ⇑ce ⇑ci λSq cs db ds dL eq U=>aW ⟨_,rfl,?_⟩) (Dp _))));refine wpAny_letOwnedTupleGo_zip cs λev ex cv=>?_;have lt:∀h∈[k,da,cS,s,x],h<j.heap.objs.size:=λh i=>by
   let@⟨t,C,⟨q,@r,p⟩,⟨@S0,al,_⟩,⟨@S_,am,_⟩⟩:=co;simp only[cq,nr,iZ]at i;rcases i with rfl|rfl|rfl|rfl|rfl
   ·exact cn t
   ·exact cn C
   ·exact cn p
   ·exact cn al
   ·exact cn am
  have ea:∀h n,h∉[k,da,cS,s,x]->j.heap.get? h=Z n->ev.get? h=Z n:=λh n i c=>by
   simp only[cq,nr,iZ,not_or]at i;exact cv.extBut _ _ i.1 (U h n i.1 i.2.2.1 i.2.2.2.1 i.2.2.2.2 c)
  have fd:j.heap.objs.size≠k:=lH (lt k ↥0);have fn:m j.heap.objs.size=Y:=E.aY.fresh (bl _);refine⟨.ref j.heap.objs.size,upd m j.heap.objs.size<|.tup [d,y],E.Ib (S5:=j.toks) N ea (bl _) ⟨by show 2<=sizeLine;decide,[L,bn],.cons ch<|.cons cl .nil,?_⟩,rfl,⟨_,d,y,fn,rfl,rfl,λM I=>?_,λM I=>?_⟩,?_,λh i=>?_⟩
  ·exact⟨_,cv.extBut _ _ fd eq,rfl,0,rfl⟩
  ·rw[E.y_ I P];exact bi
  ·rw[E.y_ I Q];exact bm
  ·exact⟨ex,cv.extBut _ _ B.TIz<|U _ _ B.TIz B.TITO B.TIi1 B.TIi2 C,⟨_,_,cv.extBut _ _ B.TOz db⟩,iU ds λn c=>cv.extBut _ n B.i1z c,iU dL λn c=>cv.extBut _ n B.i2z c⟩
  ·rw[c2 (dU<|lt h i)];exact (N h i).1
 done:=by
  intro b an ap as i a G j A m Sv E N z a1;subst an ap as;let⟨w,@SI,P,Q,fr⟩:=a1;let⟨@SG,a2,q,I⟩:=E.tuple P;let⟨@bd,be,Tj,cd⟩:=E.tuple Q;let@⟨t,C,⟨bU,@jI,p⟩,F,H⟩:=z;have J:j.TypeIs (.ref k) "zip" := ⟨_,t,rfl⟩;have aX:=a2.length;have bp:=be.length;unfold hK;refine aw (q7 (k6 (name:=aD.ofString "__next__") J tV (iH tV J z4
   (Qr (E.ok.hd i) B t C p F H (show j.heap.IsTuple g SG.toArray from q) (show j.heap.IsTuple f bd.toArray from Tj) (by
    rcases fr with e|e
    ·exact .inl (by simp;lia)
    ·exact .inr (by simp;lia)) λSq c U ⟨n,f0,f1⟩=>?_) (Dp _))))
  refine aw (q1 (T := "StopIteration") (b:=X) ⟨n,f0,f1⟩ C2<|aW ⟨rfl,E.Qp (S5:=j.toks) N λh n i c=>?_⟩);simp only[cq,nr,iZ,not_or]at i;exact U h n i.1 i.2.2.1 i.2.2.2.1 i.2.2.2.2 c
 self:=λ_ W W W W z e=>Az z.1 e
section
variable{b:aL}
def PL(So:Φ)(P:fb):da:=(λA m Su=>P A m λSp SD=>∃g f,Sp=[.ref g,.ref f]/\(∃w,cu So SD g w)/\(∃SI,cu So SD f SI)/\Su (sR So g f) SD)
def PW{P:fb}{SJ:Pos}(D:eS b "zip")(H:b.az "zip" = Y)(I:h1 b [g,f] P)(J:bV [g,f] b.env=[(ar,ck g b.env),(ar,ck f b.env)]:=by rfl)(p:bV [f] b.env=[(ar,ck f b.env)]:=by rfl):
  k4 b (.Tuple Sx TO SJ) (.Call (.Name "zip" q) [g,f] [] SK) (PL b.K P):=by
 intro G j A m Su E e;refine Call_ (n2 E D H boot_zip (qu (bX (I SK G j A m _ E e) λSO a ⟨Sp,SD,d,L,M⟩=>?_) (by rw[J,p]) (by rw[p];rfl)));let⟨aX,@bp,c,⟨@w,O⟩,⟨@SI,Q⟩,r⟩:=M;subst c;cases L with
 |cons u l=>
  cases l with
  |cons Ti l=>
   cases l;cases u;cases Ti;let⟨@SG,al,q,am⟩:=d.tuple O;let⟨@R,an,Tj,ap⟩:=d.tuple Q;have S:aX<a.heap.objs.size:=by let⟨@n,c,N⟩:=q;exact cn c
   have T:bp<a.heap.objs.size:=by let⟨@n,c,N⟩:=Tj;exact cn c
   refine callType_new F.called_zip ∅ (F.typeCall_zip_2 _ _) (F.newCall_zip_2 _ _) (λU=>F.args_object_init_3 U _ _) F.entry_zip_new (PH aX bp SG.toArray R.toArray) ⟨q,Tj,?_⟩;have o:(a.heap.push {cls:=.type "tuple_iterator",data:=.fields #[.ref aX,.int 0 0]}).objs.size=a.heap.objs.size+1:=lh ..;have i:((a.heap.push {cls:=.type "tuple_iterator",data:=.fields #[.ref aX,.int 0 0]}).push {cls:=.type "tuple_iterator",data:=.fields #[.ref bp,.int 0 0]}).objs.size=a.heap.objs.size+2:=by rw[lh,o]
   have k:(((a.heap.push {cls:=.type "tuple_iterator",data:=.fields #[.ref aX,.int 0 0]}).push {cls:=.type "tuple_iterator",data:=.fields #[.ref bp,.int 0 0]}).push
    {cls:=.type "tuple",data:=.seq #[.ref a.heap.objs.size,.ref (a.heap.push {cls:=.type "tuple_iterator",data:=.fields #[.ref aX,.int 0 0]}).objs.size]}).objs.size=a.heap.objs.size+3:=by rw[lh,i]
   have s:(jY a.heap aX bp).objs.size=a.heap.objs.size+4:=by unfold jY;rw[lh,k]
   show _/\_;refine⟨⟨_,dx _ rfl,rfl⟩,Az (TI:=a.heap.objs.size+2) (TO:=a.heap.objs.size+3) (f0:=.none) ?_ ?_⟩
   ·rw[i,k];exact dx _ rfl
   ·rw[i,k,s];have t:((jY a.heap aX bp).push {cls:=.type "zip",data:=.fields #[.none,.bool ar,.bool ar,.ref<|a.heap.objs.size+2,.ref<|a.heap.objs.size+3]}).get? (a.heap.objs.size+4)=Z {cls:=.type "zip",data:=.fields #[.none,.bool ar,.bool ar,.ref<|a.heap.objs.size+2,.ref<|a.heap.objs.size+3]}:=by rw[<-s];exact dx _ rfl
    have v:((jY a.heap aX bp).push {cls:=.type "zip",data:=.fields #[.none,.bool ar,.bool ar,.ref<|a.heap.objs.size+2,.ref<|a.heap.objs.size+3]}).get? (a.heap.objs.size+3)=Z {cls:=.type "tuple",data:=.seq #[.none,.none]}:=by
     rw[<-k];exact cw _ (dx _ rfl)
    have x:((jY a.heap aX bp).push {cls:=.type "zip",data:=.fields #[.none,.bool ar,.bool ar,.ref<|a.heap.objs.size+2,.ref<|a.heap.objs.size+3]}).get? (a.heap.objs.size+2)=Z {cls:=.type "tuple",data:=.seq #[.ref a.heap.objs.size,.ref<|a.heap.objs.size+1]}:=by
     rw[<-i,<-o];exact cw _ (cw _<|dx _ rfl)
    have y:((jY a.heap aX bp).push {cls:=.type "zip",data:=.fields #[.none,.bool ar,.bool ar,.ref<|a.heap.objs.size+2,.ref<|a.heap.objs.size+3]}).get? (a.heap.objs.size+1)=Z {cls:=.type "tuple_iterator",data:=.fields #[.ref bp,.int 0 0]}:=by
     rw[<-o];exact cw _ (cw _<|cw _<|dx _ rfl)
    have z:((jY a.heap aX bp).push {cls:=.type "zip",data:=.fields #[.none,.bool ar,.bool ar,.ref<|a.heap.objs.size+2,.ref<|a.heap.objs.size+3]}).get? a.heap.objs.size=Z {cls:=.type "tuple_iterator",data:=.fields #[.ref aX,.int 0 0]}:=
     cw _ (cw _<|cw _<|cw _<|dx _ rfl);have ea:∀h n,a.heap.get? h=Z n->((jY a.heap aX bp).push {cls:=.type "zip",data:=.fields #[.none,.bool ar,.bool ar,.ref<|a.heap.objs.size+2,.ref<|a.heap.objs.size+3]}).get? h=Z n:=λh n c=>
     cw _ (cw _<|cw _<|cw _<|cw _ c);generalize ((jY a.heap aX bp).push {cls:=.type "zip",data:=.fields #[.none,.bool ar,.bool ar,.ref<|a.heap.objs.size+2,.ref<|a.heap.objs.size+3]})=a1 at z y x v t ea ⊢;have B:tf (a.heap.objs.size+4) (a.heap.objs.size+2) (a.heap.objs.size+3) a.heap.objs.size (a.heap.objs.size+1) aX bp:=PySem.W.ktu_apart _ _ _ S T;refine⟨_,_,_,_,SD,rfl,d.kept (S5:=a.toks) ea,Ot aX bp _ _ _ _ _ B,⟨t,x,⟨_,_,v⟩,⟨_,z,rfl,rfl⟩,⟨_,y,rfl,rfl⟩⟩,λh C=>?_,r⟩;have:a.heap.objs.size<=h:=by
     simp only[cq,nr,iZ]at C;rcases C with rfl|rfl|rfl|rfl|rfl
     ·exact q9 _ _
     ·exact q9 _ _
     ·exact q9 _ _
     ·exact bl _
     ·exact q9 _ _
    exact d.uV this (d.aY.fresh this)
end
def GF(So:Φ)(m:ax)(d:aj)(S:String)(f:Bool):Prop:=(
 (∃a,d=.int a/\((S = "int" /\ f=X)\/(S = "tuple" /\ f=ar)\/(S = "str" /\ f=ar)\/(S = "bool" /\ f=ar)\/(S = "list" /\ f=ar)))\/
 (∃a,d=.av a/\((S = "bool" /\ f=X)\/(S = "int" /\ f=X)\/(S = "tuple" /\ f=ar)\/(S = "str" /\ f=ar)\/(S = "list" /\ f=ar)))\/
 (∃a,d=.str a/\((S = "str" /\ f=X)\/(S = "int" /\ f=ar)\/(S = "tuple" /\ f=ar)\/(S = "bool" /\ f=ar)\/(S = "list" /\ f=ar)))\/
 (∃g w,d=.ref g/\cu So m g w/\((S = "tuple" /\ f=X)\/(S = "int" /\ f=ar)\/(S = "str" /\ f=ar)\/(S = "bool" /\ f=ar)\/(S = "list" /\ f=ar)))\/
 (∃g w,d=.ref g/\dk So m g w/\((S = "list" /\ f=X)\/(S = "int" /\ f=ar)\/(S = "str" /\ f=ar)\/(S = "bool" /\ f=ar)\/(S = "tuple" /\ f=ar))))
section
variable{b:aL}
def Lr:eA b (.builtin "isinstance") (λw m D=>∃d S f,w=[d,.ty S]/\GF b.K m d S f/\D (.av f) m):=by
 intro G j A m w SO D E u e;let⟨d,S,@f,rfl,U,r⟩:=e;cases u with
 |cons u l=>
  cases l with
  |cons Ti l=>
   cases l;cases Ti;have k:∀{f:Bool},D (.av f) m->eO b G A D (.bool f) j:=λ{f} r=>⟨.av f,m,E,rfl,r⟩;have c:∀{f:Bool},D (.av f) m->eO b G A D (.bool f) {j with toks:=j.toks+1}:=λ{f} r=>⟨.av f,m,E.tok _,rfl,r⟩;rcases U with ⟨a,rfl,U⟩|⟨a,rfl,U⟩|⟨a,rfl,U⟩|⟨g,w,rfl,o,U⟩|⟨g,w,rfl,o,U⟩
   ·let⟨@I,rfl⟩:=u;rcases U with ⟨rfl,rfl⟩|⟨rfl,rfl⟩|⟨rfl,rfl⟩|⟨rfl,rfl⟩|⟨rfl,rfl⟩
    ·exact IsiPair.int_int (k r)
    ·exact IsiPair.int_tuple (c r)
    ·exact IsiPair.int_str (c r)
    ·exact IsiPair.int_bool (c r)
    ·exact IsiPair.int_list (c r)
   ·cases u;rcases U with ⟨rfl,rfl⟩|⟨rfl,rfl⟩|⟨rfl,rfl⟩|⟨rfl,rfl⟩|⟨rfl,rfl⟩
    ·exact IsiPair.bool_bool (k r)
    ·exact IsiPair.bool_int (k r)
    ·exact IsiPair.bool_tuple (c r)
    ·exact IsiPair.bool_str (c r)
    ·exact IsiPair.bool_list (c r)
   ·let⟨@I,rfl⟩:=u;rcases U with ⟨rfl,rfl⟩|⟨rfl,rfl⟩|⟨rfl,rfl⟩|⟨rfl,rfl⟩|⟨rfl,rfl⟩
    ·exact IsiPair.str_str (k r)
    ·exact IsiPair.str_int (c r)
    ·exact IsiPair.str_tuple (c r)
    ·exact IsiPair.str_bool (c r)
    ·exact IsiPair.str_list (c r)
   ·cases u;let⟨@SG,p,⟨@n,h,i,W⟩,s⟩:=E.tuple o;rcases U with ⟨rfl,rfl⟩|⟨rfl,rfl⟩|⟨rfl,rfl⟩|⟨rfl,rfl⟩|⟨rfl,rfl⟩
    ·exact IsiPair.tuple_tuple h i (k r)
    ·exact IsiPair.tuple_int h i (c r)
    ·exact IsiPair.tuple_str h i (c r)
    ·exact IsiPair.tuple_bool h i (c r)
    ·exact IsiPair.tuple_list h i (c r)
   ·cases u;let⟨@SG,p,q,s⟩:=E.list o;let⟨@n,h,i,W⟩:=q.isList;rcases U with ⟨rfl,rfl⟩|⟨rfl,rfl⟩|⟨rfl,rfl⟩|⟨rfl,rfl⟩|⟨rfl,rfl⟩
    ·exact IsiPair.list_list h i (k r)
    ·exact IsiPair.list_int h i (c r)
    ·exact IsiPair.list_str h i (c r)
    ·exact IsiPair.list_bool h i (c r)
    ·exact IsiPair.list_tuple h i (c r)
def F3:∀{bs:List Bool}{SO:List ae},bW (bs.map aj.av) SO->∀(a:Nat) (v:ae),SO[a]?=Z v->∃f,bs[a]?=Z f/\v=ae.bool f:=by
 intro bs SO u a v e;have b:=u.length;rw[a9]at b;have U:a<bs.length:=by rw[b];exact (fX.mp e).1
 let⟨@L,c,g⟩:=u.get (a:=a) (d:=aj.av bs[a]) (by simp[U]);rw[e]at c;cases c;exact⟨bs[a],by simp[U],g⟩
def Mj(i:b.calm=X):eA b (.builtin "all") (λw m D=>∃k bs,w=[.ref k]/\m k=Z (.lst<|List.map aj.av bs)/\D (.av<|bs.all id) m):=by
 intro G j A m w SO D E u e;let⟨k,@bs,rfl,l,r⟩:=e;let⟨@L,rfl,n⟩:=ir u;cases n;let@⟨z,⟨SG,@p,d,c⟩⟩:=E.aY k _ l;have g:j.heap.IsList k SG.toArray:=⟨_,c,rfl,p,rfl⟩;refine call_all_walk (rS g ⟨j.heap.objs.size,[j.heap.objs.size,k],[j.heap.objs.size],SG.toArray.size,_,_,λa=>(bs[a]?).getD X,rfl,mn.list (A:=b.A.in1) (E.ok.hd i) _ k (dU<|cn c) SG.toArray,
  ⟨⟨_,dx _ rfl,rfl,rfl⟩,g.push _⟩,λa v Sr x y o h=>?_,λSq Tb q=>?_⟩)
 ·let⟨@f,s,rfl⟩:=F3 d a v ⇑o;simp only[s,uz]at h;exact ky h
 ·have t:SG.toArray.size=bs.length:=by
   have:=d.length;rw[a9]at this;rw[cO,this]
  rw[t,LSm.range_all];exact⟨.av _,m,E.kept<|FX q,rfl,r⟩
def KZ:dV b (f3 .Mult) (pW IntMulOk λa i=>.int<|a*i):=uL λ_ W W W W W W c r=>mul_int r c
end
inductive ak where
 | im (s:ab)
 | dB
 | cY (J:List ab)
 | lst (J:List ab)
 | dE (SF:List (eo×ab))
 | ay (SF:List (List ab×ab))
 | hZ (w:List ak)
 | oU (w:List ak)
variable{S9:List ak->Option ak}{x:ak->ak->Option ak}{n:Option ak}{s:ak}
abbrev a7:=List (Option ak)
variable{SR B:a7}{e:List ak->a7->Option a7}
abbrev d_{SS:Type}(m:ax):List (SS×ab)->List (SS×aj)->Prop:=eg λq r=>q.1=r.1/\cD m q.2 r.2
def d_.mono{SS:Type}{k:List (SS×ab)}{H:List (SS×aj)}(I:oE m T)(e:d_ m k H):d_ T k H:=eg.so e λ_ W a=>⟨a.1,a.2.mono I⟩
structure gc(m T:ax):Prop where
 tup:oE m T
 ec:∀g n L,m g=Z (.ec n L)->T g=Z (.ec n L)
mutual
def cC(m:ax):ak->aj->List af->Prop
 |.im s,v,N=>cD m s v/\N=[]
 |.dB,_,N=>N=[]
 |.cY J,v,N=>∃g w n,v=.ref g/\m g=Z (.ec n<|.lst w)/\bM m J w/\N=[]
 |.lst J,v,N=>∃g w,v=.ref g/\m g=Z (.lst w)/\bM m J w/\N=[g]
 |.dE SF,v,N=>∃g i,v=.ref g/\m g=Z (.dE i)/\d_ m SF i/\N=[g]
 |.ay SF,v,N=>∃g i,v=.ref g/\m g=Z (.ay i)/\d_ m SF i/\N=[g]
 |.hZ J,v,N=>∃g w Ss,v=.ref g/\m g=Z (.lst w)/\ef m J w Ss/\N=g::Ss
 |.oU J,v,N=>∃g w,v=.ref g/\m g=Z (.tup w)/\ef m J w N
def ef(m:ax):List ak->List aj->List af->Prop
 |[],Sp,N=>Sp=[]/\N=[]
 |s::J,Sp,N=>∃v u F SW,Sp=v::u/\cC m s v F/\ef m J u SW/\N=F++SW
end
mutual
theorem cC.mono{m T:ax}(I:gc m T):∀{s:ak}{v:aj}{N:List af},cC m s v N->(∀g∈N,∀n,m g=Z n->T g=Z n)->cC T s v N
 |.im s,v,N,e,_=>⟨e.1.mono I.tup,e.2⟩
 |.dB,v,N,e,_=>e
 |.cY J,v,N,e,_=>by
  let⟨g,w,@n,rfl,t,C,rfl⟩:=e;exact⟨g,w,n,rfl,I.ec _ _ _ t,C.mono I.tup,rfl⟩
 |.lst J,v,N,e,o=>by
  let⟨g,@w,rfl,t,C,rfl⟩:=e;exact⟨g,w,rfl,o g (.head _) _ t,C.mono I.tup,rfl⟩
 |.dE SF,v,N,e,o=>by
  let⟨g,@w,rfl,t,C,rfl⟩:=e;exact⟨g,w,rfl,o g (.head _) _ t,C.mono I.tup,rfl⟩
 |.ay SF,v,N,e,o=>by
  let⟨g,@w,rfl,t,C,rfl⟩:=e;exact⟨g,w,rfl,o g (.head _) _ t,C.mono I.tup,rfl⟩
 |.hZ J,v,N,e,o=>by
  let⟨g,w,@Ss,rfl,t,C,rfl⟩:=e;exact⟨g,w,Ss,rfl,o g (.head _) _ t,ef.mono I C λf a=>o f<|.tail _ a,rfl⟩
 |.oU J,v,N,e,o=>by
  let⟨g,@w,rfl,t,C⟩:=e;exact⟨g,w,rfl,I.tup g w t,ef.mono I C o⟩
theorem ef.mono{m T:ax}(I:gc m T):∀{J:List ak}{Sp:List aj}{N:List af},ef m J Sp N->(∀g∈N,∀n,m g=Z n->T g=Z n)->ef T J Sp N
 |[],Sp,N,e,_=>e
 |s::J,Sp,N,e,o=>by
  let⟨v,u,F,@SW,rfl,t,C,rfl⟩:=e;exact⟨v,u,F,SW,rfl,cC.mono I t λg a=>o g<|dK _ a,ef.mono I C λg a=>o g<|dQ _ a,rfl⟩
end
def gd(m:ax)(g:af):Prop:=(∃n,m g=Z n/\(∀w,n≠.tup w)/\∀q L,n≠.ec q L)
mutual
theorem cC.chg{m:ax}:∀{s:ak}{v:aj}{N:List af},cC m s v N->∀g∈N,gd m g
 |.im s,v,N,e,g,b=>by rw[e.2]at b;cases b
 |.dB,v,N,e,g,b=>by rw[show N=[] from e]at b;cases b
 |.cY J,v,N,e,f,a=>by
  let⟨g,w,@n,rfl,t,C,rfl⟩:=e;cases a
 |.lst J,v,N,e,f,a=>by
  let⟨g,@w,rfl,t,C,rfl⟩:=e;rw[cA.mp a];exact⟨_,t,(λ_ c=>by cases c),(λ_ W c=>by cases c)⟩
 |.dE SF,v,N,e,f,a=>by
  let⟨g,@w,rfl,t,C,rfl⟩:=e;rw[cA.mp a];exact⟨_,t,(λ_ c=>by cases c),(λ_ W c=>by cases c)⟩
 |.ay SF,v,N,e,f,a=>by
  let⟨g,@w,rfl,t,C,rfl⟩:=e;rw[cA.mp a];exact⟨_,t,(λ_ c=>by cases c),(λ_ W c=>by cases c)⟩
 |.hZ J,v,N,e,f,a=>by
  let⟨g,w,@Ss,rfl,t,C,rfl⟩:=e;rcases cq.mp a with rfl|a
  ·exact⟨_,t,(λ_ c=>by cases c),(λ_ W c=>by cases c)⟩
  ·exact ef.chg C f a
 |.oU J,v,N,e,f,a=>by
  let⟨g,@w,rfl,t,C⟩:=e;exact ef.chg C f a
theorem ef.chg{m:ax}:∀{J:List ak}{Sp:List aj}{N:List af},ef m J Sp N->∀g∈N,gd m g
 |[],Sp,N,e,g,a=>by rw[e.2]at a;cases a
 |s::J,Sp,N,e,g,a=>by
  let⟨v,u,F,@SW,rfl,t,C,rfl⟩:=e;rcases dt.mp a with a|a
  ·exact cC.chg t g a
  ·exact ef.chg C g a
end
theorem ef.length:∀{J:List ak}{Sp:List aj}{N:List af},ef m J Sp N->J.length=Sp.length
 |[],Sp,N,e=>by rw[e.1];rfl
 |s::J,Sp,N,e=>by
  let⟨v,u,F,@SW,rfl,t,C,rfl⟩:=e;rw[dF,dF,C.length]
theorem bM.length:∀{J:List ab}{Sp:List aj},bM m J Sp->J.length=Sp.length
 |[],Sp,e=>by rw[show Sp=[] from e];rfl
 |s::J,Sp,e=>by
  let⟨v,@u,rfl,t,C⟩:=e;rw[dF,dF,C.length]
def lX(m:ax):Option ak->Option aj->List af->Prop
 |none,_,N=>N=[]
 |some s,d,N=>∃v,d=Z v/\cC m s v N
def bE(m:ax):a7->a3->List af->Prop
 |[],A,N=>A=[]/\N=[]
 |n::B,A,N=>∃d u F SW,A=d::u/\lX m n d F/\bE m B u SW/\N=F++SW
structure br(m:ax)(N:List af)(T:ax)(S3:List af):Prop where
 keep:∀g n,m g=Z n->g∉N->T g=Z n
 sub:∀g∈S3,g∈N\/m g=Y
 ah:S3.Nodup
 tup:gc m T
 grow:∀g n,m g=Z n->∃S7,T g=Z S7
theorem lX.mono(I:gc m T):∀{n:Option ak}{d:Option aj}{N:List af},lX m n d N->(∀g∈N,∀n,m g=Z n->T g=Z n)->lX T n d N
 |none,_,_,e,_=>e
 |some s,d,N,e,o=>by
  let⟨@v,rfl,e⟩:=e;exact⟨v,rfl,e.mono I o⟩
theorem bE.mono{m T:ax}(I:gc m T):∀{B:a7}{A:a3}{N:List af},bE m B A N->(∀g∈N,∀n,m g=Z n->T g=Z n)->bE T B A N
 |[],A,N,e,_=>e
 |n::B,A,N,e,o=>by
  let⟨d,u,F,@SW,rfl,t,C,rfl⟩:=e;exact⟨d,u,F,SW,rfl,t.mono I λg a=>o g<|dK _ a,bE.mono I C λg a=>o g<|dQ _ a,rfl⟩
theorem lX.chg:∀{n:Option ak}{d:Option aj}{N:List af},lX m n d N->∀g∈N,gd m g
 |none,_,N,e,g,a=>by rw[show N=[] from e]at a;cases a
 |some s,d,N,e,g,a=>by
  let⟨@v,rfl,e⟩:=e;exact e.chg g a
theorem bE.chg{m:ax}:∀{B:a7}{A:a3}{N:List af},bE m B A N->∀g∈N,gd m g
 |[],A,N,e,g,a=>by rw[e.2]at a;cases a
 |n::B,A,N,e,g,a=>by
  let⟨d,u,F,@SW,rfl,t,C,rfl⟩:=e;rcases dt.mp a with a|a
  ·exact t.chg g a
  ·exact bE.chg C g a
theorem bE.len{m:ax}:∀{B:a7}{A:a3}{N:List af},bE m B A N->B.length=A.length
 |[],A,N,e=>by rw[e.1];rfl
 |n::B,A,N,e=>by
  let⟨d,u,F,@SW,rfl,t,C,rfl⟩:=e;rw[dF,dF,bE.len C]
def ak.ez:ak->Bool
 |.im _=>X
 |.cY _=>X
 |_=>ar
def cC.ez(e:cC m s v N)(h:s.ez=X):N=[]:=by
 cases s with
 |im s=>exact e.2
 |cY J=>let⟨g,w,@n,rfl,t,C,rfl⟩:=e;rfl
 |_=>cases h
theorem bE.out{m:ax}:∀{B:a7}{A:a3}{N:List af}{a:Nat}{s:ak},bE m B A N->B[a]?=Z (Z s)->∃v F SW,A[a]?=Z (Z v)/\cC m s v F/\bE m (B.set a<|Z .dB) A SW/\(SW++F).Perm N
 |[],A,N,a,s,e,c=>by simp at c
 |n::B,A,N,0,s,e,c=>by
  let⟨d,u,F,@SW,rfl,t,C,rfl⟩:=e;simp at c;subst c;let⟨@v,rfl,t⟩:=t;exact⟨v,F,SW,rfl,t,⟨Z v,u,[],SW,rfl,⟨v,rfl,rfl⟩,C,rfl⟩,dC⟩
 |n::B,A,N,a+1,s,e,c=>by
  let⟨d,u,F,@SW,rfl,t,C,rfl⟩:=e;let⟨v,f,@b,g,h,i,j⟩:=bE.out (a:=a) C ⇑c;refine⟨v,f,F++b,by simpa using g,h,⟨d,u,F,b,rfl,t,i,rfl⟩,?_⟩;rw[bC];exact ee _ j
theorem bE.put{m:ax}:∀{B:a7}{A:a3}{N:List af}{a:Nat}{s:ak}{v:aj}{Ss:List af},bE m B A N->cC m s v Ss->a<B.length->∃F SW,bE m (B.set a<|Z s) (A.set a<|Z v) F/\(F++SW).Perm (N++Ss)
 |[],A,N,a,s,v,Ss,e,l,k=>by simp at k
 |n::B,A,N,0,s,v,Ss,e,l,k=>by
  let⟨d,u,F,@SW,rfl,t,C,rfl⟩:=e;refine⟨Ss++SW,F,⟨Z v,u,Ss,SW,rfl,⟨v,rfl,l⟩,C,rfl⟩,?_⟩;refine dC.trans ?_;rw[bC];exact ee _ dC
 |n::B,A,N,a+1,s,v,Ss,e,l,k=>by
  let⟨d,u,F,@SW,rfl,t,C,rfl⟩:=e;let⟨b,@c,f,g⟩:=bE.put (a:=a) C l ⇑k;refine⟨F++b,c,⟨d,_,F,b,rfl,t,f,rfl⟩,?_⟩;rw[bC,bC];exact ee _ g
def bE.ez{a:Nat}(e:bE m B A N)(c:B[a]?=Z (Z s))(h:s.ez=X):∃v,A[a]?=Z (Z v)/\cC m s v []:=by
 let⟨v,F,@SW,d,b,W⟩:=e.out c;obtain rfl:=b.ez h;exact⟨v,d,b⟩
def Kp{a:Nat}(e:A[a]?=Z (Z v)):A.set a (Z v)=A:=by
 refine pz λi=>?_;by_cases c:a=i
 ·subst c;rw[e,sg (fX.mp e).1]
 ·rw[nJ c]
def bE.back{a:Nat}(e:bE m B A N)(l:cC m s v Ss)(b:A[a]?=Z (Z v)):∃F SW,bE m (B.set a<|Z s) A F/\(F++SW).Perm (N++Ss):=by
 have k:a<B.length:=by rw[e.len];exact (fX.mp b).1
 let⟨F,@SW,t,C⟩:=e.put (a:=a) l k;rw[Kp b]at t;exact⟨F,SW,t,C⟩
def gc.of(x:rV m T)(M:∀g n L,m g=Z (.ec n L)->T g=Z (.ec n L)):gc m T:=⟨⟨x,M⟩,M⟩
def RM(m:ax):gc m m:=⟨⟨λ_ W c=>c,λ_ W W c=>c⟩,λ_ W W c=>c⟩
def gc.trans(g:gc m SD)(f:gc SD SP):gc m SP:=⟨⟨λd w c=>f.tup.t d w<|g.tup.t d w c,λd n L c=>f.ec d n L<|g.ec d n L c⟩,λd n L c=>f.ec d n L<|g.ec d n L c⟩
def br.refl(e:S3.Nodup)(j:∀g∈S3,g∈N):br m N m S3:=⟨λ_ W c W=>c,λg a=>.inl<|j g a,e,RM m,λ_ n c=>⟨n,c⟩⟩
def br.perm(e:N.Nodup)(q:S3.Perm N):br m N m S3:=br.refl ((q.nodup_iff).mpr e) λg a=>q.mem_iff.mp a
def br.trans(g:br m N SD (F++Su))(f:br SD F SP SW)(i:∀d∈Su,gd SD d):br m N SP (SW++Su):=by
 have ah:=df.mp g.ah;have j:∀d∈SW,d∉Su:=λd a h=>by
  rcases f.sub d a with e|e
  ·exact ah.2.2 d e d h rfl
  ·let⟨@n,c,W⟩:=i d h;rw[c]at e;cases e
 refine⟨λd n c a=>?_,λd a=>?_,df.mpr ⟨f.ah,ah.2.1,λd a y k c=>j d a<|c ▸ k⟩,g.tup.trans f.tup,λd n c=>let ⟨S7,b⟩:=g.grow d n c;f.grow d S7 b⟩
 ·refine f.keep d n (g.keep d n c a) λt=>?_;rcases g.sub d (dK _ t) with e|e
  ·exact a e
  ·rw[c]at e;cases e
 ·rcases dt.mp a with a|a
  ·rcases f.sub d a with e|e
   ·exact g.sub d (dK _ e)
   ·refine .inr ?_;cases c:m d with
    |none=>rfl
    |some n=>
     let⟨@S7,b⟩:=g.grow d n c;rw[b]at e;cases e
  ·exact g.sub d (dQ _ a)
def cZ.tupS(j:cZ m T):gc m T:=⟨⟨λg w c=>j g _ c,λg n L c=>j g _ c⟩,λg n L c=>j g _ c⟩
def B_{g f:af}{n L:gm}(c:m f=Z n)(e:m g=Y):L2.upd m g L f=Z n:=by rw[c2 (g_ c e)];exact c
def cZ.upd(j:cZ m T){g:af}{n:gm}(e:T g=Y):cZ m (L2.upd T g n):=λf L c=>B_ (j f L c) e
abbrev aA(SU:Type):=a7->Option (SU×a7)
variable{TM:aA ak}{cT o:aA Bool}
inductive bP where
 | aQ (a:Nat)
 | cf (s:ak)
variable{To Ts:aA bP}{M:aA (List bP)}
def dW(B:a7):bP->Option ak
 |.aQ a=>(B[a]?).getD Y
 |.cf s=>Z s
def iw(m:ax)(A:a3):bP->aj->List af->Prop
 |.aQ a,v,Su=>A[a]?=Z (Z v)/\Su=[]
 |.cf s,v,Su=>cC m s v Su
def fz(M:aA ak):b5:=(λA m D=>∃B N u SR,bE m B A N/\N.Nodup/\M B=Z (u,SR)/\∀v T S3 Su,bE T SR A S3->cC T u v Su->br m N T (S3++Su)->D v T)
def mM(M:aA bP):b5:=(λA m D=>∃B N u SR,bE m B A N/\N.Nodup/\M B=Z (u,SR)/\∀v T S3 Su,bE T SR A S3->iw T A u v Su->br m N T (S3++Su)->D v T)
def jh(M:aA Bool):ek:=(λA m D=>∃B N f SR,bE m B A N/\N.Nodup/\M B=Z (f,SR)/\∀T S3,bE T SR A S3->br m N T S3->D f T)
def cj(b:aL)(c:bu)(M:aA ak):Prop:=(∀ ⦃q⦄,xF b c (fz M) q)
def dI(b:aL)(c:bu)(M:aA bP):Prop:=(∀ ⦃q⦄,xF b c (mM M) q)
def ix(b:aL)(c:bu)(M:aA Bool):Prop:=(∀ ⦃q⦄,Fg b c (jh M) q)
def ey{I S5:b5}(e:bN b c I)(a:∀A m D,S5 A m D->I A m D):bN b c S5:=λG j A m D E d=>e G j A m D E (a A m D d)
def vi{I:ek}(e:ho b c I)(a:∀A m D,S5 A m D->I A m D):ho b c S5:=λG j A m D E d=>e G j A m D E (a A m D d)
def iw.mono{u:bP}(e:iw m A u v Su)(I:gc m T)(o:∀g∈Su,∀n,m g=Z n->T g=Z n):iw T A u v Su:=by
 cases u with
 |aQ a=>exact e
 |cf s=>exact cC.mono I e o
def iw.chg{u:bP}(e:iw m A u v Su):∀g∈Su,gd m g:=by
 cases u with
 |aQ a=>intro g b;rw[e.2]at b;cases b
 |cf s=>exact cC.chg e
def e5(m:ax)(s:ak)(v:aj):Prop:=(∃Su,cC m s v Su)
def iw.read{u:bP}(e:iw m A u v Su)(z:bE m B A N)(c:dW B u=Z s):e5 m s v:=by
 cases u with
 |cf g=>cases c;exact⟨Su,e⟩
 |aQ a=>
  have d:B[a]?=Z (Z s):=by
   have:(B[a]?).getD Y=Z s:=c;cases r:B[a]? with
   |none=>rw[r]at this;cases this
   |some n=>rw[r]at this;rw[show n=Z s from this]
  let⟨h,F,@SW,b,f,W⟩:=z.out d;rw[e.1]at b;cases b;exact⟨F,f⟩
@[simp] def et(a:Nat):aA ak:=λB=>match B[a]? with
 |some (Z s)=>if s.ez=X then Z (s,B) else Z (s,B.set a<|Z .dB)
 |_=>Y
def aE(s:ab):aA ak:=(λB=>Z (.im s,B))
@[simp] def ag(a:Nat):aA bP:=λB=>match B[a]? with
 |some (Z _)=>Z (.aQ a,B)
 |_=>Y
@[simp] def ai(M:aA ak):aA bP:=λB=>(M B).map λq=>(.cf q.1,q.2)
section
variable{b:aL}
variable{a:Nat}
def fC(e:bN b c (ly a)):cj b c (et a):=by
 refine ey e λA m D f=>?_;let⟨B,N,u,@SR,z,ah,d,r⟩:=f;unfold et at d;split at d
 ·rename_i s hd;split at d
  ·rename_i g;cases d;let⟨@v,t,C⟩:=z.ez hd g;exact⟨v,t,r v m N [] z C (by rw[cB];exact br.perm ah (List.Perm.refl _))⟩
  ·cases d;let⟨v,F,@SW,t,C,h,i⟩:=z.out hd;exact⟨v,t,r v m SW F h C<|br.perm ah i⟩
 ·cases d
def QV(e:bN b c (ly a)):dI b c (ag a):=by
 refine ey e λA m D f=>?_;let⟨B,N,u,@SR,z,ah,d,r⟩:=f;unfold ag at d;split at d
 ·rename_i s hd;cases d;let⟨v,F,@SW,t,C,g,h⟩:=z.out hd;exact⟨v,t,r v m N [] z ⟨t,rfl⟩ (by rw[cB];exact br.perm ah (List.Perm.refl _))⟩
 ·cases d
def aR{M:aA ak}(e:cj b c M):dI b c (ai M):=by
 refine ey e λA m D d=>?_;let⟨B,N,u,@SR,z,ah,a,r⟩:=d;unfold ai at a;let⟨@⟨Ti,Sy⟩,t,C⟩:=cJ.mp a;cases C;exact⟨B,N,Ti,_,z,ah,t,r⟩
def oD{s:ab}(e:bN b c (pB v))(hd:∀m,cD m s v):cj b c (aE s):=by
 refine ey e λA m D a=>?_;let⟨B,N,u,@SR,z,ah,d,r⟩:=a;cases d;exact r v m N [] z ⟨hd m,rfl⟩ (by rw[cB];exact br.perm ah (List.Perm.refl _))
def hb{a:Int}{i SK}:cj b (.Constant (.int a) i SK) (aE<|.int a):=oD I4 λ_=>rfl
def fj{f:Bool}{i SK}:cj b (.Constant (.bool f) i SK) (aE<|.av f):=oD Ls λ_=>rfl
def vn{i SK}:cj b (.Constant .none i SK) (aE .aV):=oD JC λ_=>rfl
def two{Sy S2:a7}{d y:bP}{So:aj->aj->ax->Prop}(z:bE m B A N)(ah:N.Nodup)(b:Ts B=Z (d,Sy))(i:To Sy=Z (y,S2))(o:∀v L T S3 a b0,bE T S2 A S3->iw T A d v a->iw T A y L b0->br m N T ((S3++b0)++a)->So v L T):mM Ts A m λv SD=>mM To A SD λL SP=>So v L SP:=by
 refine⟨B,N,d,Sy,z,ah,b,λv SD F a j E f=>⟨Sy,F,y,S2,j,(df.mp f.ah).1,i,λL SP SW b0 k Tn h=>?_⟩⟩;refine o v L SP SW a b0 k (E.mono h.tup λg b n c=>h.keep g n c λe=>?_) Tn (f.trans h E.chg);exact (df.mp f.ah).2.2 g e g b rfl
def br.new{e:List af}(g:br m N SD (F++Su))(j:cZ SD SP)(ah:e.Nodup)(f:∀d∈e,SD d=Y)(h:∀d∈F,gd SD d):br m N SP (F++e):=by
 refine⟨λd n c a=>j _ _<|g.keep d n c a,λd a=>?_,df.mpr ⟨(df.mp g.ah).1,ah,λd a y i c=>?_⟩,g.tup.trans j.tupS,λd n c=>let ⟨S7,b⟩:=g.grow d n c;⟨S7,j _ _ b⟩⟩
 ·rcases dt.mp a with a|a
  ·exact g.sub d (dK _ a)
  ·refine .inr ?_;cases c:m d with
   |none=>rfl
   |some n=>
    let⟨@S7,b⟩:=g.grow d n c;rw[f d a]at b;cases b
 ·subst c;let⟨@n,c,W⟩:=h d a;rw[f d i]at c;cases c
def eW(b:aL)(x:ae->ae->dR ae)(S9:ak->ak->Option ak):Prop:=(
 dV b x λd y m D=>∃Td Te s,e5 m Td d/\e5 m Te y/\S9 Td Te=Z s/\∀v T Su,cZ m T->cC T s v Su->Su.Nodup->(∀g∈Su,m g=Y)->D v T)
@[simp] def aF(S9:ak->ak->Option ak)(Ts To:aA bP):aA ak:=λB=>(Ts B).bind λq=>(To q.2).bind λr=>(dW r.2 q.1).bind λTd=>(dW r.2 r.1).bind λTe=>(S9 Td Te).map λs=>(s,r.2)
def t5{S9:ak->ak->Option ak}(e:fz (aF S9 Ts To) A m D):
  mM Ts A m λd SD=>mM To A SD λy SP=>∃Td Te s,e5 SP Td d/\e5 SP Te y/\S9 Td Te=Z s/\∀v T Su,cZ SP T->cC T s v Su->Su.Nodup->(∀g∈Su,SP g=Y)->D v T:=by
 let⟨B,N,u,@SR,z,ah,a,r⟩:=e;unfold aF at a;let⟨@⟨d,Sy⟩,i,a⟩:=bS.mp a;let⟨@⟨y,S2⟩,j,a⟩:=bS.mp a;let⟨@Td,t,a⟩:=bS.mp a;let⟨@Te,C,a⟩:=bS.mp a;let⟨@s,k,a⟩:=cJ.mp a;cases a;refine two z ah i j λv L SP SW x b0 b E Tn h=>⟨Td,Te,_,E.read b t,Tn.read b C,k,λl o Su f p q w=>?_⟩;rw[bC]at h;exact r l o SW Su (b.mono f.tupS λg W n c=>f g n c) p (h.new f q w b.chg)
def iV{S9:vF}(a:eW b (f3 S9) x)(c:dI b g Ts)(d:dI b f To):cj b (.BinOp g S9 f SK) (aF x Ts To):=
 ey (HO a c d) λ_ W W e=>t5 e
variable{S9:lg}
def gH(a:eW b (d9 S9) x)(c:dI b g Ts)(d:dI b f To)(h:oW S9 f=ar):cj b (.Compare g [S9] [f] SK) (aF x Ts To):=
 ey (Kd a c d h) λ_ W W e=>t5 e
def Hg(a:iK b (λd y m D=>∃Td Te s,e5 m Td d/\e5 m Te y/\x Td Te=Z s/\∀v T Su,cZ m T->cC T s v Su->Su.Nodup->(∀g∈Su,m g=Y)->D v T))(c:dI b g Ts)(h:dI b f To)(i:vE f):cj b (.Subscript g f SK) (aF x Ts To):=
 ey (HR a c h i) λ_ W W e=>t5 e
@[simp] def nT:ak->Option Bool
 |.im (.av f)=>Z f
 |_=>Y
@[simp] def a8(M:aA ak):aA Bool:=λB=>(M B).bind λq=>(nT q.1).map λf=>(f,q.2)
def sb{f:Bool}(e:nT s=Z f):s=.im (.av f):=by
 unfold nT at e;split at e
 ·cases e;rfl
 ·cases e
def dn(c:eW b (d9 S9) x)(d:dI b g Ts)(e:dI b f To)(i:oW S9 f=ar):ix b (.Compare g [S9] [f] SK) (a8<|aF x Ts To):=by
 refine vi (LL c d e i) λA m D k=>?_;let⟨B,N,h,@SR,z,ah,l,r⟩:=k;refine t5 ⟨B,N,.im<|.av h,SR,z,ah,?_,λv T S3 Su n a j=>⟨h,a.1,r T S3 n (by rw[a.2,cB]at j;exact j)⟩⟩;let⟨@q,t,C⟩:=bS.mp l;let⟨@s,o,p⟩:=cJ.mp C;cases p;rw[t,<-sb o]
@[simp] def eJ(M:aA Bool):aA Bool:=λB=>(M B).map λq=>(!q.1,q.2)
variable{M:aA Bool}
def gO(e:ix b g M):ix b (.UnaryOp .Not g SK) (eJ M):=by
 refine vi (OA e) λA m D a=>?_;let⟨B,N,h,@SR,z,ah,c,r⟩:=a;let⟨@q,t,C⟩:=cJ.mp c;cases C;exact⟨B,N,q.1,_,z,ah,t,r⟩
@[simp] def d5(M e:aA Bool):aA Bool:=λB=>(M B).bind λq=>if q.1=X then e q.2 else Z (ar,q.2)
@[simp] def fG(M e:aA Bool):aA Bool:=λB=>(M B).bind λq=>if q.1=X then Z (X,q.2) else e q.2
variable{D:Bool->ax->Prop}{e:aA Bool}
def DL(l:jh (d5 M e) A m D):Aj (jh M) (jh e) A m D:=by
 let⟨B,N,h,@SR,z,ah,c,r⟩:=l;let⟨@⟨f,Sy⟩,t,C⟩:=bS.mp c;refine⟨B,N,f,Sy,z,ah,t,λSD F b a=>?_⟩;cases f with
 |true=>
  rw[aJ rfl];rw[aJ rfl]at C;exact⟨Sy,F,h,SR,b,a.ah,C,λSP SW g i=>r SP SW g (by
   have:=br.trans (Su:=[]) (by rw[cB];exact a) i (λd j=>nomatch j)
   rwa [cB]at this)⟩
 |false=>
  rw[aM dA]at C ⊢;cases C;exact r SD F b a
def Jm(l:jh (fG M e) A m D):D9 (jh M) (jh e) A m D:=by
 let⟨B,N,h,@SR,z,ah,c,r⟩:=l;let⟨@⟨f,Sy⟩,t,C⟩:=bS.mp c;refine⟨B,N,f,Sy,z,ah,t,λSD F b a=>?_⟩;cases f with
 |false=>
  rw[aM dA]at C ⊢;exact⟨Sy,F,h,SR,b,a.ah,C,λSP SW g i=>r SP SW g (by
   have:=br.trans (Su:=[]) (by rw[cB];exact a) i (λd j=>nomatch j)
   rwa [cB]at this)⟩
 |true=>
  rw[aJ rfl]at C ⊢;cases C;exact r SD F b a
def fc(b:aL)(c:bu)(M:aA Bool):Prop:=(∀ ⦃q⦄,Ck b c (jh M) q)
def AJ{I:ek}(e:jT b c I)(a:∀A m D,S5 A m D->I A m D):jT b c S5:=λd G j A m D E f=>e d G j A m D E (a A m D f)
def qc(e:ix b g M):fc b (.BoolOp .And [g] SK) M:=Iv e
def j2(e:ix b g M):fc b (.BoolOp .Or [g] SK) M:=Mm e
def oq(e:ix b g M)(a:fc b (.BoolOp .And (f::u) SK) o):fc b (.BoolOp .And (g::f::u) SK) (d5 M o):=AJ (QB e a) λ_ W W l=>DL l
def ih(e:ix b g M)(a:fc b (.BoolOp .Or (f::u) SK) o):fc b (.BoolOp .Or (g::f::u) SK) (fG M o):=AJ (PE e a) λ_ W W l=>Jm l
def fc.hs(e:fc b c M):ix b c M:=jT.pt e
@[simp] def fx(M:aA Bool):aA ak:=λB=>(M B).map λq=>(.im<|.av q.1,q.2)
def xA(e:cj b c (fx M)):bN b c λA m D=>jh M A m λf T=>D (.av f) T:=by
 refine ey e λA m D d=>?_;let⟨B,N,h,@SR,z,ah,g,r⟩:=d;refine⟨B,N,.im<|.av h,SR,z,ah,by unfold fx;rw[g];rfl,λv T S3 Su i a j=>?_⟩;rw[show v=.av h from a.1];exact r T S3 i (by rw[a.2,cB]at j;exact j)
def F4(e:bN b c λA m D=>jh M A m λf T=>D (.av f) T):cj b c (fx M):=by
 refine ey e λA m D a=>?_;let⟨B,N,u,@SR,z,ah,d,r⟩:=a;let⟨@q,t,C⟩:=cJ.mp d;cases C;exact⟨B,N,q.1,_,z,ah,t,λT S3 g j=>r _ T S3 [] g ⟨rfl,rfl⟩ (by rw[cB];exact j)⟩
def eC{M:aA ak}(e:cj b c M):cj b c (fx<|a8 M):=by
 refine ey e λA m D a=>?_;let⟨B,N,u,@SR,z,ah,d,r⟩:=a;let⟨@q,t,C⟩:=cJ.mp d;let⟨@f,g,i⟩:=bS.mp t;let⟨@h,j,k⟩:=cJ.mp i;cases k;cases C;exact⟨B,N,f.1,_,z,ah,g,by rw[sb j];exact r⟩
def J0(e:cj b g (fx M)):cj b (.UnaryOp .Not g SK) (fx<|eJ M):=by
 refine F4 (ey (Lj<|xA e) λA m D a=>?_);let⟨B,N,h,@SR,z,ah,c,r⟩:=a;let⟨@q,t,C⟩:=cJ.mp c;cases C;exact⟨B,N,q.1,_,z,ah,t,λT S3 d j=>⟨_,rfl,r T S3 d j⟩⟩
def kR{S9}{M:aA ak}(e:cj b g M):cj b (.BoolOp S9 [g] SK) M:=PK e
def g5(e:cj b g (fx M))(a:cj b (.BoolOp .And (f::u) SK) (fx o)):cj b (.BoolOp .And (g::f::u) SK) (fx<|d5 M o):=by
 refine F4 (ey (MG (xA e)<|xA a) λA m D l=>?_);have:=DL l;let⟨B,N,h,@SR,z,ah,c,r⟩:=this;exact⟨B,N,h,SR,z,ah,c,λT S3 d j=>⟨h,rfl,r T S3 d j⟩⟩
@[simp] def xO(h:aA Bool)(g f:aA ak):aA ak:=λB=>(h B).bind λq=>if q.1=X then g q.2 else f q.2
def br.seq(g:br m N SD F)(f:br SD F SP SW):br m N SP SW:=by
 have:=br.trans (Su:=[]) (by rw[cB];exact g) f (λd a=>nomatch a)
 rwa [cB]at this
def Lp{Ts To:aA ak}(j:ix b h cT)(k:cj b g Ts)(l:cj b f To):cj b (.IfExp h g f SK) (xO cT Ts To):=by
 refine ey (I5 j k l) λA m D n=>?_;let⟨B,N,u,@SR,z,ah,o,r⟩:=n;let⟨@⟨I,Sy⟩,t,C⟩:=bS.mp o;refine⟨B,N,I,Sy,z,ah,t,λSD F i a=>?_⟩;cases I with
 |true=>
  rw[aJ rfl]at C ⊢;exact⟨Sy,F,u,SR,i,a.ah,C,λv SP SW Su c d e=>r v SP SW Su c d<|a.seq e⟩
 |false=>
  rw[aM dA]at C ⊢;exact⟨Sy,F,u,SR,i,a.ah,C,λv SP SW Su c d e=>r v SP SW Su c d<|a.seq e⟩
end
def kJ(m:ax)(A:a3):List bP->List aj->List af->Prop
 |[],Sp,Su=>Sp=[]/\Su=[]
 |n::P,Sp,Su=>∃v u a b0,Sp=v::u/\iw m A n v a/\kJ m A P u b0/\Su=a++b0
def gS(M:aA (List bP)):fb:=(λA m D=>∃B N u SR,bE m B A N/\N.Nodup/\M B=Z (u,SR)/\∀Sp T S3 Su,bE T SR A S3->kJ T A u Sp Su->br m N T (S3++Su)->D Sp T)
def fM(b:aL)(Sx:List bu)(M:aA (List bP)):Prop:=(∀ ⦃q⦄,AF b Sx (gS M) q)
def Gv{I S5:fb}(e:h1 b Sx I)(a:∀A m D,S5 A m D->I A m D):h1 b Sx S5:=λSK G j A m D E c=>e SK G j A m D E (a A m D c)
def aB:aA (List bP):=(λB=>Z ([],B))
@[simp] def aq(M:aA bP)(e:aA (List bP)):aA (List bP):=λB=>(M B).bind λq=>(e q.2).map λr=>(q.1::r.1,r.2)
def br.k0(j:br m N T O)(q:O.Perm SN):br m N T SN:=⟨j.keep,λg a=>j.sub g<|q.mem_iff.mpr a,(q.nodup_iff).mp j.ah,j.tup,j.grow⟩
def br.less(j:br m N T O)(q:(SN++aO).Perm O):br m N T SN:=
 ⟨j.keep,λg a=>j.sub g<|q.mem_iff.mp<|dK _ a,(df.mp<|(q.nodup_iff).mpr j.ah).1,j.tup,j.grow⟩
section
variable{b:aL}
def p3:fM b [] aB:=by
 refine Gv DR λA m D a=>?_;let⟨B,N,u,@SR,z,ah,c,r⟩:=a;cases c;exact r [] m N [] z ⟨rfl,rfl⟩ (by rw[cB];exact br.perm ah (List.Perm.refl _))
def kh{M:aA bP}{e:aA (List bP)}(i:dI b c M)(j:fM b Sx e)(k:bV (c::Sx) b.env=(ar,ck c b.env)::bV Sx b.env:=by rfl):fM b (c::Sx) (aq M e):=by
 refine Gv (wm i j k) λA m D l=>?_;let⟨B,N,u,@SR,z,ah,o,r⟩:=l;let⟨@⟨d,Sy⟩,t,C⟩:=bS.mp o;let⟨@⟨SI,S2⟩,p,q⟩:=cJ.mp C;cases q;refine⟨B,N,d,Sy,z,ah,t,λv SD F h s E a=>⟨Sy,F,SI,_,s,(df.mp a.ah).1,p,λSp SP SW b0 w Tn f=>?_⟩⟩;refine r (v::Sp) SP SW (h++b0) w ⟨v,Sp,h,b0,rfl,E.mono f.tup λg x n c=>f.keep g n c λe=>?_,Tn,rfl⟩ ((a.trans f E.chg).k0 ?_)
 ·exact (df.mp a.ah).2.2 g e g x rfl
 ·rw[bC];exact ee _ dC
end
def ip(B:a7):List bP->Option (List ak)
 |[]=>Z []
 |n::P=>(dW B n).bind λs=>(ip B P).map λJ=>s::J
def mO(m:ax):List ak->List aj->Prop
 |[],Sp=>Sp=[]
 |s::J,Sp=>∃v u,Sp=v::u/\e5 m s v/\mO m J u
theorem kJ.read{m:ax}{B:a7}{A:a3}{N:List af}(z:bE m B A N):∀{P:List bP}{Sp:List aj}{Su:List af}{J:List ak},kJ m A P Sp Su->ip B P=Z J->mO m J Sp
 |[],_,_,_,e,c=>by cases c;exact e.1
 |n::P,_,_,_,e,c=>by
  let⟨v,u,g,@b0,rfl,t,C,rfl⟩:=e;let⟨@s,a,b⟩:=bS.mp c;let⟨@J,d,f⟩:=cJ.mp b;cases f;exact⟨v,u,rfl,t.read z a,kJ.read z C d⟩
def fm:List bP->a7->Option (List ak×a7)
 |[],B=>Z ([],B)
 |.cf s::P,B=>(fm P B).map λq=>(s::q.1,q.2)
 |.aQ a::P,B=>(et a B).bind λq=>(fm P q.2).map λr=>(q.1::r.1,r.2)
def E7{a:Nat}(z:bE m B A N)(e:et a B=Z (s,SR)):∃v F Su,A[a]?=Z (Z v)/\cC m s v Su/\bE m SR A F/\(F++Su).Perm N:=by
 unfold et at e;split at e
 ·rename_i c hd;split at e
  ·rename_i b;cases e;let⟨@v,t,C⟩:=z.ez hd b;exact⟨v,N,[],t,C,z,by rw[cB]⟩
  ·cases e;let⟨v,F,@SW,t,C,d,f⟩:=z.out hd;exact⟨v,SW,F,t,C,d,f⟩
 ·cases e
def kM:(O++(SN++aO)).Perm (SN++(O++aO)):=by
 rw[<-bC,<-bC];exact fq _ dC
theorem o2{m:ax}{A:a3}:∀{P:List bP}{Sp:List aj}{Su N:List af}{B SR:a7}{J:List ak},bE m B A N->kJ m A P Sp Su->fm P B=Z (J,SR)->∃F b,bE m SR A F/\ef m J Sp b/\(F++b).Perm (N++Su)
 |[],_,_,N,_,_,_,z,e,c=>by
  cases c;exact⟨N,[],z,⟨e.1,rfl⟩,by rw[e.2]⟩
 |.cf s::P,_,_,N,B,_,_,z,e,c=>by
  let⟨v,u,b,@b0,rfl,t,C,rfl⟩:=e;rw[fm]at c;let⟨@q,g,h⟩:=cJ.mp c;cases h;let⟨F,@d,f,i,j⟩:=o2 (SR:=q.2) (J:=q.1) z C g;exact⟨F,b++d,f,⟨v,u,b,d,rfl,t,i,rfl⟩,kM.trans<|(ee _ j).trans kM⟩
 |.aQ a::P,_,_,N,B,_,_,z,e,c=>by
  let⟨v,u,b,@b0,rfl,@⟨t,rfl⟩,C,rfl⟩:=e;rw[fm]at c;let⟨@⟨s,Sy⟩,l,n⟩:=bS.mp c;let⟨@q,g,h⟩:=cJ.mp n;cases h;let⟨r,F,@d,f,i,j,o⟩:=E7 z l;rw[t]at f;cases f;let⟨SW,@k,S6,S8,p⟩:=o2 (SR:=q.2) (J:=q.1) j C g;refine⟨SW,d++k,S6,⟨v,u,d,k,rfl,i,S8,rfl⟩,kM.trans<|(ee _ p).trans ?_⟩;rw[<-bC];exact fq _ (dC.trans o)
@[simp] def iQ:List bP->List ak->a7->a7
 |.aQ a::P,s::J,B=>iQ P J (match B[a]? with|some (Z .dB)=>B.set a (Z s)|_=>B)
 |.cf _::P,_::J,B=>iQ P J B
 |_,_,B=>B
theorem tZ{m j:ax}{A:a3}:∀{P:List bP}{J:List ak}{Sp:List aj}{Su N SM:List af}{B:a7},bE m B A N->kJ j A P Sp SM->ef m J Sp Su->∃F b,bE m (iQ P J B) A F/\(F++b).Perm (N++Su)
 |[],J,_,Su,N,_,B,z,_,_=>⟨N,Su,by unfold iQ;exact z,List.Perm.refl _⟩
 |.cf _::P,[],_,Su,N,_,B,z,_,_=>⟨N,Su,by unfold iQ;exact z,List.Perm.refl _⟩
 |.aQ _::P,[],_,Su,N,_,B,z,_,_=>⟨N,Su,by unfold iQ;exact z,List.Perm.refl _⟩
 |.cf _::P,s::J,_,Su,N,_,B,z,e,l=>by
  let⟨v,u,k,@n,rfl,t,C,rfl⟩:=e;let⟨o,Ti,b,@b0,c,i,h,rfl⟩:=l;cases c;let⟨F,@d,f,g⟩:=tZ (B:=B) z C h;refine⟨F,b++d,by rw[iQ];exact f,kM.trans<|(ee _ g).trans kM⟩
 |.aQ a::P,s::J,_,Su,N,_,B,z,e,l=>by
  let⟨v,u,k,@n,rfl,@⟨t,W⟩,C,rfl⟩:=e;let⟨o,Ti,b,@b0,c,i,h,rfl⟩:=l;cases c;rw[iQ];split
  ·let⟨F,@Ss,f,g⟩:=z.back i t;let⟨SW,@d,S6,S8⟩:=tZ f C h;refine⟨SW,d++Ss,S6,?_⟩;rw[<-bC,<-bC];refine (fq _ S8).trans ?_;rw[bC];refine (ee _ dC).trans ?_;rw[<-bC];exact fq _ g
  ·let⟨F,@d,f,g⟩:=tZ z C h;exact⟨F,b++d,f,kM.trans<|(ee _ g).trans kM⟩
def hR:List ak->Option (List ab)
 |[]=>Z []
 |.im s::J=>(hR J).map λu=>s::u
 |_::_=>Y
@[simp] def u9(J:List ak):ak:=match hR J with
 |some is=>.im (.tup is)
 |none=>.oU J
@[simp] def tp(J:List ak):ak:=match hR J with
 |some is=>.lst is
 |none=>.hZ J
theorem y3{m:ax}:∀{J:List ak}{Sp:List aj}{Su:List af}{is:List ab},ef m J Sp Su->hR J=Z is->bM m is Sp/\Su=[]
 |[],_,_,_,e,c=>by cases c;exact e
 |.im s::J,_,_,_,e,c=>by
  let⟨v,u,g,@b0,rfl,@⟨t,rfl⟩,C,rfl⟩:=e;rw[hR]at c;let⟨@q,b,d⟩:=cJ.mp c;cases d;let@⟨f,rfl⟩:=y3 C b;exact⟨⟨v,u,rfl,t,f⟩,rfl⟩
 |.dB::_,_,_,_,_,c=>by rw[hR]at c;cases c;all_goals (intro W a;cases a)
 |.cY _::_,_,_,_,_,c=>by rw[hR]at c;cases c;all_goals (intro W a;cases a)
 |.lst _::_,_,_,_,_,c=>by rw[hR]at c;cases c;all_goals (intro W a;cases a)
 |.dE _::_,_,_,_,_,c=>by rw[hR]at c;cases c;all_goals (intro W a;cases a)
 |.ay _::_,_,_,_,_,c=>by rw[hR]at c;cases c;all_goals (intro W a;cases a)
 |.hZ _::_,_,_,_,_,c=>by rw[hR]at c;cases c;all_goals (intro W a;cases a)
 |.oU _::_,_,_,_,_,c=>by rw[hR]at c;cases c;all_goals (intro W a;cases a)
@[simp] def dY(M:aA (List bP)):aA ak:=λB=>(M B).bind λq=>(fm q.1 q.2).bind λr=>if r.1.length<=100000 then Z (u9 r.1,r.2) else Y
@[simp] def eV(M:aA (List bP)):aA ak:=λB=>(M B).bind λq=>(fm q.1 q.2).bind λr=>if r.1.length<=100000 then Z (tp r.1,r.2) else Y
def Oj{J:List ak}{q:af}(j:cZ m T)(e:ef m J Sp Su)(c:T q=Z (.tup Sp)):∃a,cC T (u9 J) (.ref q) a/\a=Su:=by
 unfold u9;split
 ·rename_i is U;let@⟨b,rfl⟩:=y3 e U;exact⟨[],⟨⟨q,Sp,rfl,c,b.mono j.tupS.tup⟩,rfl⟩,rfl⟩
 ·exact⟨Su,⟨q,Sp,rfl,c,e.mono j.tupS λg W n r=>j g n r⟩,rfl⟩
def Ip{J:List ak}{q:af}(j:cZ m T)(e:ef m J Sp Su)(c:T q=Z (.lst Sp)):cC T (tp J) (.ref q) (q::Su):=by
 unfold tp;split
 ·rename_i is U;let@⟨a,rfl⟩:=y3 e U;exact⟨q,Sp,rfl,c,a.mono j.tupS.tup,rfl⟩
 ·exact⟨q,Sp,Su,rfl,c,e.mono j.tupS λg W n r=>j g n r,rfl⟩
def l6(e:p<=100000):p<=sizeLine:=ew e ∅
def br.add{q:af}{n:gm}(g:br m N SD O)(a:SD q=Y)(h:∀d∈O,gd SD d):br m N (upd SD q n) (O++[q]):=by
 have j:cZ SD (upd SD q n):=(cZ.refl SD).upd a;have:=br.new (Su:=[]) (e:=[q]) (by rw[cB];exact g) j (ep _ _) (λd b=>by rw[cA.mp b];exact a) h;exact this
def br.same(g:br m N SD O)(j:cZ SD SP):br m N SP O:=
 ⟨λd n c a=>j _ _<|g.keep d n c a,g.sub,g.ah,g.tup.trans j.tupS,λd n c=>let ⟨S7,b⟩:=g.grow d n c;⟨S7,j _ _ b⟩⟩
section
variable{b:aL}
def j_{f}(e:fM b Sx M):cj b (.Tuple Sx f SK) (dY M):=by
 refine ey (HB e) λA m D h=>?_;let⟨B,N,u,@SR,z,ah,i,r⟩:=h;let⟨@⟨P,Sy⟩,t,C⟩:=bS.mp i;let⟨@⟨J,S2⟩,k,a⟩:=bS.mp C;refine⟨B,N,P,Sy,z,ah,t,λSp SD F G l E o=>?_⟩;let⟨SW,@b0,p,d,S4⟩:=o2 l E k;split at a
 ·rename_i s;cases a;have v:Sp.length<=100000:=by rw[<-d.length];exact s
  refine⟨l6 v,λq w=>?_⟩;have j:cZ SD (upd SD q<|.tup Sp):=(cZ.refl SD).upd w;let⟨@x,y,rfl⟩:=Oj j d eT;exact r _ _ SW x (p.mono j.tupS λg W n c=>j g n c) y ((o.k0 S4.symm).same j)
 ·cases a
def f5(e:fM b Sx M):cj b (.List Sx SK) (eV M):=by
 refine ey (Jb e) λA m D l=>?_;let⟨B,N,u,@SR,z,ah,o,r⟩:=l;let⟨@⟨P,Sy⟩,t,C⟩:=bS.mp o;let⟨@⟨J,S2⟩,p,f⟩:=bS.mp C;refine⟨B,N,P,Sy,z,ah,t,λSp SD F G s E v=>?_⟩;let⟨SW,@b0,i,h,S4⟩:=o2 s E p;split at f
 ·rename_i w;cases f;have x:Sp.length<=100000:=by rw[<-h.length];exact w
  refine⟨l6 x,λq k=>?_⟩;have j:cZ SD (upd SD q<|.lst Sp):=(cZ.refl SD).upd k;have y:=Ip j h (q:=q) eT;refine r _ _ SW (q::b0) (i.mono j.tupS λg W n c=>j g n c) y (((v.k0 S4.symm).add k λd a=>?_).k0 ?_)
  ·rcases dt.mp a with a|a
   ·exact i.chg d a
   ·exact h.chg d a
  ·rw[bC];exact ee _ dC
 ·cases f
def hu(b:aL)(x:ae)(S9:List ak->Option ak):Prop:=(
 eA b x λw m D=>∃J s,mO m J w/\S9 J=Z s/\∀v T Su,cZ m T->cC T s v Su->Su.Nodup->(∀g∈Su,m g=Y)->D v T)
@[simp] def bQ(S9:List ak->Option ak)(M:aA (List bP)):aA ak:=λB=>(M B).bind λq=>(ip q.2 q.1).bind λJ=>(S9 J).map λs=>(s,q.2)
def AX(e:fz (bQ S9 M) A m D):
  gS M A m λw SD=>∃J s,mO SD J w/\S9 J=Z s/\∀v T Su,cZ SD T->cC T s v Su->Su.Nodup->(∀g∈Su,SD g=Y)->D v T:=by
 let⟨B,N,u,@SR,z,ah,d,r⟩:=e;let⟨@⟨P,Sy⟩,t,C⟩:=bS.mp d;let⟨@J,f,h⟩:=bS.mp C;let⟨@s,i,j⟩:=cJ.mp h;cases j;refine⟨B,N,P,Sy,z,ah,t,λSp SD F q a E k=>⟨J,_,E.read a f,i,λv SP Su b l o p=>?_⟩⟩;exact r v SP F Su (a.mono b.tupS λg W n c=>b g n c) l (k.new b o p a.chg)
def PJ{id:String}(a:hu b (.builtin id) S9)(f:eS b d)(g:b.az d=Y)(h:e8 d=Z (.builtin id))(i:fM b (c::Sx) M)(j:d ≠ "__name__" := by decide)(k:(d==("__debug__" : aD))=ar:=by decide)(l:bV (c::Sx) b.env=(ar,ck c b.env)::bV Sx b.env:=by rfl)(m:(f6 SK<|bV Sx b.env).any (·.1)=ar:=by rfl):
  cj b (.Call (.Name d q) (c::Sx) [] SK) (bQ S9 M):=ey (FE a f g h i j k l m) λ_ W W e=>AX e
def ij{S:String}(a:hu b (.type S) S9)(f:eS b d)(g:b.az d=Y)(h:e8 d=Z (.type S))(i:fM b (c::Sx) M)(j:d ≠ "__name__" := by decide)(k:(d==("__debug__" : aD))=ar:=by decide)(l:bV (c::Sx) b.env=(ar,ck c b.env)::bV Sx b.env:=by rfl)(m:(f6 SK<|bV Sx b.env).any (·.1)=ar:=by rfl):
  cj b (.Call (.Name d q) (c::Sx) [] SK) (bQ S9 M):=ey (Nd a f g h i j k l m) λ_ W W e=>AX e
abbrev c0:=List ak->Option (ak×List ak)
def jM(p:Nat)(Ss:c0):cK:=(λSp m D W=>Sp.length=p/\∃J N u G,ef m J Sp N/\N.Nodup/\Ss J=Z (u,G)/\∀v T Su a,cC T u v Su->ef T G Sp a->br m N T (Su++a)->D v T)
@[simp] def bq(p:Nat)(Ss:c0)(M:aA (List bP)):aA ak:=λB=>(M B).bind λq=>if q.1.length=p then (fm q.1 q.2).bind λr=>(Ss r.1).map λu=>(u.1,iQ q.1 u.2 r.2) else Y
theorem kJ.length{m:ax}{A:a3}:∀{P:List bP}{Sp:List aj}{Su:List af},kJ m A P Sp Su->P.length=Sp.length
 |[],_,_,e=>by rw[e.1];rfl
 |n::P,_,_,e=>by
  let⟨v,u,a,@b0,rfl,t,C,rfl⟩:=e;rw[dF,dF,kJ.length C]
def Cp{Ss:c0}{Sv:gk}(e:fz (bq p Ss M) A m D):xn (jM p Ss) [] Sv (gS M) A m D:=by
 let⟨B,N,u,@SR,z,ah,i,r⟩:=e;let⟨@⟨P,Sy⟩,t,C⟩:=bS.mp i;split at C
 ·rename_i j;let⟨@⟨J,S2⟩,k,l⟩:=bS.mp C;let⟨@⟨Ti,G⟩,o,q⟩:=cJ.mp l;cases q;refine⟨B,N,P,Sy,z,ah,t,λSp SD F al s E w=>?_⟩;let⟨SW,b0,f,x,S4⟩:=o2 s E k;have a:=w.k0 (S4.symm.trans dC);rw[cB];refine⟨by rw[<-E.length];exact j,J,b0,_,G,x,(df.mp a.ah).1,o,λv h Su am y H b=>?_⟩;have I:=a.trans b f.chg;have L:∀g∈SW,g∉b0:=λg d O=>(df.mp a.ah).2.2 g O g d rfl;have Q:bE h S2 A SW:=f.mono b.tup λg d n c=>b.keep g n c (L g d);let⟨R,@S,T,U⟩:=tZ Q E H;refine r v h R Su T y (I.less (aO:=S) ?_);refine List.Perm.trans ?_ dC;rw[bC];refine (ee _ dC).trans ?_;rw[<-bC];refine (fq _ U).trans ?_;rw[bC];exact ee _ dC
 ·cases C
variable{o:Nat}
def Oz{Ss:c0}{x:af}(N:hC b.prog b.w b.K b.az b.base hE o x fd SJ (jM p Ss))(a:eE o b.A)(f:eS b d)(g:b.az d=Z (.ref x))(h:Θ b.K (.ref x)=X)(i:hG b.K fd SJ [])(j:fM b (c::Sx) M)(k:(d==("__debug__" : aD))=ar:=by decide)(m:bV (c::Sx) b.env=(ar,ck c b.env)::bV Sx b.env:=by rfl)(n:(f6 SK<|bV Sx b.env).any (·.1)=ar:=by rfl):
  cj b (.Call (.Name d q) (c::Sx) [] SK) (bq p Ss M):=ey (HA N a f g h i .nil G3 j k m n) λ_ U U e=>Cp e
inductive mR where
 | bo|es (s:ak)|e1|b3
abbrev bH:=a7->Option (mR×a7)
def dP(SX:List Nat)(A b:a3):Prop:=(b.length=A.length/\∀a∈SX,b[a]?=A[a]?)
def dP.refl:dP SX A A:=⟨rfl,λ_ W=>rfl⟩
def dP.trans{b:a3}(g:dP SX A TH)(f:dP SX TH b):dP SX A b:=⟨f.1.trans g.1,λa U=>(f.2 a U).trans<|g.2 a U⟩
def dP.set{i:Nat}{v:Option aj}(e:i∉SX):dP SX A (A.set i v):=⟨w5,λa U=>nJ λc=>e (by rw[c];exact U)⟩
def p6(SX:List Nat)(Sv:nY)(A:a3)(m:ax)(N:List af)(SR:a7):mR->Prop
 |.bo=>∀a T S3,dP SX A a->bE T SR a S3->br m N T S3->Sv.bo a T
 |.e1=>∀a T S3,dP SX A a->bE T SR a S3->br m N T S3->Sv.e1 a T
 |.b3=>∀a T S3,dP SX A a->bE T SR a S3->br m N T S3->Sv.b3 a T
 |.es s=>∀v a T S3 Su,dP SX A a->bE T SR a S3->cC T s v Su->br m N T (S3++Su)->Sv.es v T
def pS(SX:List Nat)(M:bH):e6:=(λSv A m=>∃B N aT SR,bE m B A N/\N.Nodup/\M B=Z (aT,SR)/\p6 SX Sv A m N SR aT)
def iC(b:aL)(SX:List Nat)(z:b9)(M:bH):Prop:=(∀ ⦃q⦄,CZ b z (pS SX M) q)
def ja(b:aL)(SX:List Nat)(a:List b9)(M:bH):Prop:=(∀ ⦃q⦄,As b a (pS SX M) q)
variable{S5:e6}
def lP{I:e6}(e:h3 b z I)(a:∀Sv A m,S5 Sv A m->I Sv A m):h3 b z S5:=λG j A m B E c=>e G j A m B E (a B A m c)
def Dr{z:List b9}{I:e6}(e:hV b z I)(a:∀Sv A m,S5 Sv A m->I Sv A m):hV b z S5:=λG j A m B E c=>e G j A m B E (a B A m c)
def p6.on{aT:mR}(e:p6 SX Sv A m N SR aT)(Tp:dP SX A TH)(j:br m N SD F):p6 SX Sv TH SD F SR aT:=by
 cases aT with
 |bo=>exact λa T S3 x z Sr=>e a T S3 (Tp.trans x) z (j.seq Sr)
 |e1=>exact λa T S3 x z Sr=>e a T S3 (Tp.trans x) z (j.seq Sr)
 |b3=>exact λa T S3 x z Sr=>e a T S3 (Tp.trans x) z (j.seq Sr)
 |es s=>exact λv a T S3 Su x z b Sr=>e v a T S3 Su (Tp.trans x) z b (j.seq Sr)
def en:bH:=(λB=>Z (.bo,B))
@[simp] def bt(M e:bH):bH:=λB=>(M B).bind λq=>match q.1 with
 |.bo=>e q.2
 |aT=>Z (aT,q.2)
def eR:ja b SX [] en:=by
 refine Dr Qv λSv A m a=>?_;let⟨B,N,aT,@SR,z,ah,c,r⟩:=a;cases c;exact r A m N dP.refl z (br.perm ah<|List.Perm.refl _)
variable{M:bH}
def bO(e:iC b SX z M):ja b SX [z] M:=Ol e
def It{e:bH}(l:pS SX (bt M e) Sv A m):GK (pS SX M) (pS SX e) Sv A m:=by
 let⟨B,N,aT,@SR,z,ah,a,r⟩:=l;let⟨@⟨b,Sy⟩,t,C⟩:=bS.mp a;cases b with
 |bo=>exact⟨B,N,.bo,Sy,z,ah,t,λd T S3 Tp c j=>⟨Sy,S3,aT,SR,c,j.ah,C,r.on Tp j⟩⟩
 |e1=>cases C;exact⟨B,N,.e1,Sy,z,ah,t,r⟩
 |b3=>cases C;exact⟨B,N,.b3,Sy,z,ah,t,r⟩
 |es s=>cases C;exact⟨B,N,.es s,Sy,z,ah,t,r⟩
def bB{a:List b9}{e:bH}(t:iC b SX z M)(C:ja b SX a e):ja b SX (z::a) (bt M e):=Dr (Ow t C) λ_ W W l=>It l
def DF:bH:=(λ_=>Y)
def O5:iC b SX z DF:=lP Hj λ_ _ _ ⟨_,_,_,_,_,_,e,_⟩=>by cases e
@[simp] def ie(M:aA ak):bH:=λB=>(M B).map λq=>(.bo,q.2)
variable{M:aA ak}
def j0(e:cj b c M)(a:mZ c Y SK.line b.env=pure ar:=by rfl):iC b SX (.Expr c SK) (ie M):=by
 refine lP (Im e a) λSv A m d=>?_;let⟨B,N,aT,@SR,z,ah,f,r⟩:=d;let⟨@⟨u,Sy⟩,t,C⟩:=cJ.mp f;cases C;exact⟨B,N,u,_,z,ah,t,λv T S3 Su g h j=>r A T S3 dP.refl g<|j.less<|List.Perm.refl _⟩
@[simp] def cF(M:aA ak):bH:=λB=>(M B).map λq=>(.es q.1,q.2)
def cL(e:cj b c M):iC b SX (.Return (Z c) SK) (cF M):=by
 refine lP (HL e) λSv A m a=>?_;let⟨B,N,aT,@SR,z,ah,d,r⟩:=a;let⟨@⟨u,Sy⟩,t,C⟩:=cJ.mp d;cases C;exact⟨B,N,u,_,z,ah,t,λv T S3 Su f g j=>r v A T S3 Su dP.refl f g j⟩
@[simp] def dy(h:aA Bool)(g f:bH):bH:=λB=>(h B).bind λq=>if q.1=X then g q.2 else f q.2
variable{To:bH}
def eu{g f:List b9}{Ts:bH}(d:ix b h cT)(e:ja b SX g Ts)(i:ja b SX f To):iC b SX (.If h g f SK) (dy cT Ts To):=by
 refine lP (Q5 d e i) λSv A m j=>?_;let⟨B,N,aT,@SR,z,ah,k,r⟩:=j;let⟨@⟨I,Sy⟩,t,C⟩:=bS.mp k;refine⟨B,N,I,Sy,z,ah,t,λSD F c a=>?_⟩;cases I with
 |true=>
  rw[aJ rfl]at C ⊢;exact⟨Sy,F,aT,SR,c,a.ah,C,r.on dP.refl a⟩
 |false=>
  rw[aM dA]at C ⊢;exact⟨Sy,F,aT,SR,c,a.ah,C,r.on dP.refl a⟩
@[simp] def bZ(a:Nat)(M:aA ak):bH:=λB=>(M B).bind λq=>if a<q.2.length then Z (.bo,q.2.set a<|Z q.1) else Y
variable{a:Nat}
def kC{i:Pos}(e:b.N.Nodup)(U:b.N[a]?=Z d)(f:kc b.env.scope d)(g:cj b c M)(h:a∉SX)(j:mZ c (Z<|.Name d i) SK.line b.env=pure ar:=by rfl)(l:b.fn d=X\/b.env.scope.names.lookup d=Z .local:=by first|exact .inl rfl|exact .inr rfl|assumption):iC b SX (.Assign [.Name d i] c SK) (bZ a M):=by
 refine lP (NR e U f g j l) λSv A m n=>?_;let⟨B,N,aT,@SR,z,ah,o,r⟩:=n;let⟨@⟨u,Sy⟩,t,C⟩:=bS.mp o;split at C
 ·rename_i p;cases C;refine⟨B,N,u,_,z,ah,t,λv SD F Su q s w=>?_⟩;let⟨SW,@b0,x,S4⟩:=q.put (a:=a) s p;exact r _ SD SW (dP.set h) x (w.less S4)
 ·cases C
abbrev fp:=ak->a7->Option a7
def ya(SX:List Nat)(M:fp):gg:=(λv A m D=>∃B N s Su SR,bE m B A N/\cC m s v Su/\(N++Su).Nodup/\M s B=Z SR/\∀a T S3,dP SX A a->bE T SR a S3->br m (N++Su) T S3->D a T)
def hv(b:aL)(SX:List Nat)(c:bu)(M:fp):Prop:=(∀ ⦃q⦄,AL b c (ya SX M) q)
def vk{I S5:gg}(e:jw b c I)(a:∀v A m D,S5 v A m D->I v A m D):jw b c S5:=λG j A m d v D E u f=>e G j A m d v D E u (a d A m D f)
@[simp] def a0(a:Nat):fp:=λs B=>if a<B.length then Z (B.set a<|Z s) else Y
def lM(e:b.N.Nodup)(U:b.N[a]?=Z d)(f:kc b.env.scope d)(g:a∉SX)(h:b.fn d=X\/b.env.scope.names.lookup d=Z .local:=by first|exact .inl rfl|exact .inr rfl|assumption):hv b SX (.Name d SK) (a0 a):=by
 refine vk (J6 e U f h) λv A m D i=>?_;let⟨B,N,s,Su,@SR,z,j,ah,c,r⟩:=i;unfold a0 at c;split at c
 ·rename_i l;cases c;let⟨SW,@b0,n,S4⟩:=z.put (a:=a) j l;exact r _ m SW (dP.set g) n ((br.perm ah<|List.Perm.refl _).less S4)
 ·cases c
def Q0(SX:List Nat)(M:List ak->a7->Option a7):jq:=(λSp A m D=>∃B N J Su SR,bE m B A N/\ef m J Sp Su/\(N++Su).Nodup/\M J B=Z SR/\∀a T S3,dP SX A a->bE T SR a S3->br m (N++Su) T S3->D a T)
def qi(b:aL)(SX:List Nat)(Sx:List bu)(M:List ak->a7->Option a7):Prop:=(∀ ⦃q⦄,Af b Sx (Q0 SX M) q)
@[simp] def gJ:List ak->a7->Option a7
 |[],B=>Z B
 |_,_=>Y
@[simp] def dT(M:fp)(e:List ak->a7->Option a7):List ak->a7->Option a7
 |s::J,B=>(M s B).bind (e J)
 |_,_=>Y
def DH{I S5:jq}(e:n4 b Sx I)(a:∀v A m D,S5 v A m D->I v A m D):n4 b Sx S5:=λG j A m w Sp D E u c=>e G j A m w Sp D E u (a w A m D c)
def Cd:qi b SX [] gJ:=by
 refine DH P6 λSp A m D c=>?_;let⟨B,N,J,Su,@SR,z,d,ah,a,r⟩:=c;cases J with
 |cons s J=>cases a
 |nil=>
  cases a;exact⟨d.1,r A m N dP.refl z<|(br.perm ah<|List.Perm.refl _).less<|List.Perm.refl _⟩
def tX{M:fp}(t:hv b SX c M)(C:qi b SX Sx e)(q:(fe (c::Sx) b.env).map (·.2)=ig c b.env::(fe Sx b.env).map (·.2):=by rfl):qi b SX (c::Sx) (dT M e):=by
 refine DH (Ka t C q) λSp A m D w=>?_;let⟨B,N,J,Su,@SR,z,x,ah,k,r⟩:=w;cases J with
 |nil=>cases k
 |cons s J=>
  let⟨v,u,h,@b0,rfl,y,l,rfl⟩:=x;let⟨@Sy,E,G⟩:=bS.mp (show (M s B).bind (e J)=Z SR from k);have j:((N++h)++b0).Nodup:=by rw[bC];exact ah
  refine⟨v,u,rfl,B,N,s,h,Sy,z,y,(df.mp j).1,E,λTH SD F Tp H d=>?_⟩;have o:∀g∈b0,g∉N++h:=λg a i=>(df.mp j).2.2 g i g a rfl;have I:ef SD J u b0:=l.mono d.tup λg a n c=>d.keep g n c (o g a);have p:br m (N++(h++b0)) SD (F++b0):=by
   refine⟨λg n c a=>d.keep g n c λe=>a ?_,λg a=>?_,df.mpr ⟨d.ah,(df.mp j).2.1,λg a f i c=>?_⟩,d.tup,d.grow⟩
   ·rw[<-bC];exact dK _ e
   ·rcases dt.mp a with a|a
    ·rcases d.sub g a with e|e
     ·left;rw[<-bC];exact dK _ e
     ·exact .inr e
    ·left;rw[<-bC];exact dQ _ a
   ·subst c;rcases d.sub g a with e|e
    ·exact o g i e
    ·let⟨@n,c,W⟩:=l.chg g i;rw[c]at e;cases e
  exact⟨Sy,F,J,b0,SR,H,I,p.ah,G,λL SP SW O P Q=>r L SP SW (Tp.trans O) P<|p.seq Q⟩
@[simp] def gX(p:Nat)(e:List ak->a7->Option a7):fp:=λs B=>match s with
 |.im (.tup is)=>if is.length=p then e (is.map .im) B else Y
 |.oU J=>if J.length=p then e J B else Y
 |_=>Y
theorem zt{m:ax}:∀{is:List ab}{Sp:List aj},bM m is Sp->ef m (is.map .im) Sp []
 |[],Sp,e=>⟨e,rfl⟩
 |s::is,Sp,e=>by
  let⟨v,@u,rfl,t,C⟩:=e;exact⟨v,u,[],[],rfl,⟨t,rfl⟩,zt C,rfl⟩
def Pn(f:b.calm=X)(h:qi b SX Sx e)(i:(fe Sx b.env).length=p:=by rfl)(j:(fe Sx b.env).findIdx? (·.1)=Y:=by rfl):hv b SX (.Tuple Sx o SK) (gX p e):=by
 refine vk (Pp f h i j) λv A m D k=>?_;let⟨B,N,s,Su,@SR,z,d,ah,a,r⟩:=k;unfold gX at a;split at a
 ·rename_i is;split at a
  ·rename_i c;let@⟨⟨g,@w,rfl,t,C⟩,rfl⟩:=d;exact⟨g,w,rfl,cu.of t,by rw[<-C.length];exact c,B,N,_,[],SR,z,zt C,ah,a,r⟩
  ·cases a
 ·rename_i J;split at a
  ·rename_i c;let⟨g,@w,rfl,t,C⟩:=d;exact⟨g,w,rfl,cu.of t,by rw[<-C.length];exact c,B,N,_,Su,SR,z,C,ah,a,r⟩
  ·cases a
 ·cases a
@[simp] def gW(M:aA ak)(e:fp):bH:=λB=>(M B).bind λq=>(e q.1 q.2).map λSR=>(.bo,SR)
def i5{e:fp}(d:cj b c M)(f:hv b SX S1 e)(g:DI [S1] c SK.line b.env=pure ar:=by rfl)(h:A4 [S1] c b.env=pure Y:=by rfl)(t:(fe [S1] b.env).map (·.2)=[ig S1 b.env]:=by rfl):iC b SX (.Assign [S1] c SK) (gW M e):=by
 refine lP (MI d f g h t) λSv A m i=>?_;let⟨B,N,aT,@SR,z,ah,j,r⟩:=i;let⟨@⟨u,Sy⟩,g1,g2⟩:=bS.mp j;let⟨@S2,k,l⟩:=cJ.mp g2;cases l;exact⟨B,N,u,Sy,z,ah,g1,λv SD F Su n o a=>⟨Sy,F,u,Su,_,n,o,a.ah,k,λp T S3 Tp q s=>r p T S3 Tp q<|a.seq s⟩⟩
def il(h:aA Bool)(f:bH):Nat->bH
 |0=>λ_=>Y
 |p+1=>λB=>(h B).bind λq=>if q.1=X then (f q.2).bind λr=>match r.1 with
  |.bo=>il h f p r.2
  |.b3=>il h f p r.2
  |.e1=>Z (.bo,r.2)
  |.es s=>Z (.es s,r.2) else Z (.bo,q.2)
def oP(p:Nat)(o:qh (aS b.prog b.w) b.A b.env b.cU)(q:ix b h cT)(t:ja b SX TG To):iC b SX (.While h TG [] SK) (il cT To p):=by
 refine lP (Pj o q t) λSv A m u=>?_;let⟨B,N,aT,@SR,z,ah,y,r⟩:=u;refine⟨λH a T=>∃g S3,bE T g a S3/\dP SX A a/\br m N T S3/\il cT To H g=Z (aT,SR),⟨p,B,N,z,dP.refl,br.perm ah<|List.Perm.refl _,y⟩,?_⟩;rintro H TH SD ⟨Sy,F,C,i,d,l⟩;cases H with
 |zero=>cases l
 |succ H=>
  rw[il]at l;let⟨@⟨I,S2⟩,D,j⟩:=bS.mp l;refine⟨Sy,F,I,S2,C,d.ah,D,λSP SW n f=>?_⟩;cases I with
  |false=>
   rw[aM dA]at j ⊢;cases j;exact r TH SP SW i n (d.seq f)
  |true=>
   rw[aJ rfl]at j ⊢;let⟨@⟨x,Tq⟩,E,k⟩:=bS.mp j;refine⟨λa T=>∃g S3,bE T g a S3/\dP SX A a/\br m N T S3/\il cT To H g=Z (aT,SR),λa T e=>⟨H,pY H,e⟩,S2,SW,x,Tq,n,f.ah,E,?_⟩;cases x with
   |bo=>exact λa T S3 Tp c Sr=>⟨Tq,S3,c,i.trans Tp,(d.seq f).seq Sr,k⟩
   |b3=>exact λa T S3 Tp c Sr=>⟨Tq,S3,c,i.trans Tp,(d.seq f).seq Sr,k⟩
   |e1=>
    cases k;exact λa T S3 Tp c Sr=>r a T S3 (i.trans Tp) c ((d.seq f).seq Sr)
   |es s=>
    cases k;exact λv a T S3 Su Tp c G Sr=>r v a T S3 Su (i.trans Tp) c G ((d.seq f).seq Sr)
structure lR(Tw:e9)(m:ax)(Su:List af)(J:List ab):Prop where
 go:∀T,gc m T->(∀g∈Su,∀n,m g=Z n->T g=Z n)->∀(a:Nat) (s:ab),J[a]?=Z s->Tw.go a T/\∀d xP,Tw.qa a T d xP->cZ T xP/\cD xP s d
 stop:∀T,gc m T->(∀g∈Su,∀n,m g=Z n->T g=Z n)->Tw.stop J.length T
def qP(m:ax)(A:a3)(Su:List af):Option (Nat×ak)->Prop
 |none=>True
 |some (a,s)=>∃v,A[a]?=Z (Z v)/\cC m s v Su
def w0(M:aA (List ab×Option (Nat×ak))):da:=(λA m a=>∃B N u SR,bE m B A N/\N.Nodup/\M B=Z (u,SR)/\∀Tw T S3 Su,bE T SR A S3->lR Tw T Su u.1->qP T A Su u.2->(∀g∈Su,gd T g)->br m N T (S3++Su)->a Tw T)
def mA(b:aL)(S1 Tr:bu)(M:aA (List ab×Option (Nat×ak))):Prop:=(∀ ⦃q⦄,zR b S1 Tr (w0 M) q)
def xB{I S5:da}(e:k4 b S1 Tr I)(a:∀A m Su,S5 A m Su->I A m Su):k4 b S1 Tr S5:=λG j A m Su E c=>e G j A m Su E (a A m Su c)
def d3(S1:fp)(f:bH):List ab->bH
 |[]=>λB=>Z (.bo,B)
 |d::u=>λB=>(S1 (.im d) B).bind λSy=>(f Sy).bind λr=>match r.1 with
  |.bo=>d3 S1 f u r.2
  |.b3=>d3 S1 f u r.2
  |.e1=>Z (.bo,r.2)
  |.es s=>Z (.es s,r.2)
@[simp] def lb:Option (Nat×ak)->a7->a7
 |none,B=>B
 |some (a,s),B=>match B[a]? with
  |some (Z .dB)=>B.set a (Z s)
  |_=>B
@[simp] def gj(M:aA (List ab×Option (Nat×ak)))(S1:fp)(f:bH):bH:=λB=>(M B).bind λq=>(d3 S1 f q.1.1 q.2).map λr=>(r.1,lb q.1.2 r.2)
def x4{n:Option (Nat×ak)}(z:bE m B A N)(e:qP m A Su n):∃F Ss,bE m (lb n B) A F/\(F++Ss).Perm (N++Su):=by
 cases n with
 |none=>exact⟨N,Su,z,List.Perm.refl _⟩
 |some q=>
  let⟨a,s⟩:=q;let⟨@v,t,C⟩:=e;unfold lb;dsimp only;split
  ·exact z.back C t
  ·exact⟨N,Su,z,List.Perm.refl _⟩
def nZ(Tp:List Nat):Option (Nat×ak)->Prop
 |none=>True
 |some (a,_)=>a∈Tp
def Lv{M:aA (List ab×Option (Nat×ak))}{y:fp}(hf:qh (aS b.prog b.w) b.A b.env b.cU)(hm:b.calm=X)(U:mA b S1 Tr M)(hw:hv b Tp S1 y)(h0:ja b Tp TG To)(cr:∀a∈SX,a∈Tp)(cs:∀B u SR,M B=Z (u,SR)->nZ Tp u.2)(db:h3 b (.For S1 Tr TG [] SK) (F9 (w0 M) (ya Tp y)<|pS Tp To)):iC b SX (.For S1 Tr TG [] SK) (gj M y To):=by
 refine lP db λSv A m ds=>?_;let⟨B,N,aT,@SR,z,ah,dL,r⟩:=ds;let⟨@⟨⟨J,n⟩,Sy⟩,t,C⟩:=bS.mp dL;let⟨@⟨x,S2⟩,eq,ev⟩:=cJ.mp C;cases ev;refine⟨B,N,(J,n),Sy,z,ah,t,λTw SD F Su ex it fd be am=>?_⟩;have fn:nZ Tp n:=cs B _ _ t;have bi:=df.mp am.ah;have an:∀{SP:ax}{SW:List af},br SD F SP SW->∀g∈Su,∀L,SD g=Z L->SP g=Z L:=λj g fr L c=>j.keep g L c λe=>bi.2.2 g e g fr rfl;have bm:∀{SP:ax}{SW:List af}{f:a3},br SD F SP SW->dP Tp A f->qP SP f Su n:=λ{SP SW f} j x=>by
  cases n with
  |none=>trivial
  |some q=>
   let⟨a,s⟩:=q;let⟨@v,f0,f1⟩:=fd;exact⟨v,(x.2 a fn).trans f0,f1.mono j.tup<|an j⟩
 have bn:∀{f:a3},dP Tp A f->dP SX A f:=λx=>⟨x.1,λa U=>x.2 a<|cr a U⟩;have bs:∀{f:a3}{SP:ax}{SW:List af}{S2:a7},p6 SX Sv A m N (lb n S2) .bo->dP Tp A f->bE SP S2 f SW->br SD F SP SW->Sv.bo f SP:=λ{f SP SW S2} r x ap p=>by
  let⟨I,@Ss,as,S4⟩:=x4 ap (bm p x);exact r f SP I (bn x) as ((am.trans p be).less S4)
 refine⟨λa H a1 T=>H+a=J.length/\∃h S3,dP Tp A a1/\bE T h a1 S3/\br SD F T S3/\d3 y To (J.drop a) h=Z (x,S2),⟨J.length,rfl,Sy,F,dP.refl,ex,br.perm bi.1<|List.Perm.refl _,eq⟩,?_⟩;rintro a H a1 T ⟨ii,h,S3,D,bv,Sr,P⟩;by_cases ca:a<J.length
 ·let@⟨f2,f4⟩:=it.go T Sr.tup (an Sr) a J[a] (by simp[ca]);rw[jz ca,d3]at P;let⟨@Tq,f8,ga⟩:=bS.mp P;let⟨@⟨cd,a2⟩,ge,Q⟩:=bS.mp ga;refine .inr ⟨f2,λf SP=>(H-1)+(a+1)=J.length/\∃h S3,dP Tp A f/\bE SP h f S3/\br SD F SP S3/\d3 y To (J.drop<|a+1) h=Z (x,S2),λf SP e=>⟨H-1,⋯,e⟩,λd SP gl=>?_⟩;let@⟨bd,gt⟩:=f4 d SP gl;have ap:=bv.mono bd.tupS λg W n c=>bd g n c;have p:=Sr.same bd;refine⟨h,S3,.im J[a],[],Tq,ap,⟨gt,rfl⟩,by rw[cB];exact p.ah,f8,λio g1 I R as ce=>?_⟩;have E:br SD F g1 I:=p.seq (by rw[cB]at ce;exact ce);refine⟨Tq,I,cd,a2,as,E.ah,ge,?_⟩;cases cd with
  |bo=>exact λS al G i k o=>⟨⋯,a2,G,(D.trans R).trans i,k,E.seq o,Q⟩
  |b3=>exact λS al G i k o=>⟨⋯,a2,G,(D.trans R).trans i,k,E.seq o,Q⟩
  |e1=>
   cases Q;exact λS al G i k o=>bs r ((D.trans R).trans i) k (E.seq o)
  |es s=>
   cases Q;intro v S al G ch i k g2 o;have ci:=E.seq o;have cl:=(D.trans R).trans i;let⟨co,@g3,hd,he⟩:=x4 (Su:=Su) k (bm ci cl);refine r v S al co ch (bn cl) hd g2 ((am.trans ci be).less (aO:=g3) ?_);rw[bC];refine (ee co dC).trans ?_;rw[<-bC];refine (fq ch he).trans ?_;rw[bC,bC];exact ee _ dC
 ·have U:a=J.length:=⋯
  subst U;refine .inl ⟨it.stop T Sr.tup<|an Sr,?_⟩;rw[nv (bl _)]at P;cases P;exact bs r D bv Sr
end
section
variable{b:aL}
variable{y:fp}
def jH{M:aA (List ab×Option (Nat×ak))}{To:bH}(c:qh (aS b.prog b.w) b.A b.env b.cU)(e:b.calm=X)(U:mA b S1 Tr M)(f:hv b Tp S1 y)(g:ja b Tp TG To)(h:∀a∈SX,a∈Tp)(i:∀B u SR,M B=Z (u,SR)->nZ Tp u.2)(j:∀d,ma Tr b.env d=pure d:=by intro W;rfl):iC b SX (.For S1 Tr TG [] SK) (gj M y To):=
 Lv c e U f g h i (Po c e U f g j)
def Oc(So:Φ)(TJ:b5):da:=(λA m Su=>TJ A m λd SD=>∃g,d=.ref g/\(((∃w,dk So SD g w)/\Su (rE So g) SD)\/((∃w,cu So SD g w)/\Su (uf So g) SD)))
variable{k:bu}
def MO{TJ:b5}(o:bN b k TJ):k4 b S1 k (Oc b.K TJ):=by
 intro G j A m Su E e;refine bX (o G j A m _ E e) λv a p=>?_;let⟨d,@SD,h,s,t⟩:=p;let⟨@g,c,r⟩:=t;subst c;cases s;rcases r with ⟨⟨w,i⟩,r⟩|⟨⟨w,i⟩,r⟩
 ·let⟨@SG,u,q,x⟩:=h.list i;refine rS q.isList ?_;refine⟨a.heap.objs.size,[a.heap.objs.size],_,_,SD,rfl,h.kept (S5:=a.toks) λf n c=>cw _ c,H0 g _,⟨_,dx _ rfl,rfl,rfl⟩,λf l=>?_,r⟩;have c:f=a.heap.objs.size:=by simpa using l
  subst c;exact h.uV (bl _) (h.aY.fresh<|bl _)
 ·let⟨@SG,u,q,x⟩:=h.tuple i;refine wpAny_pyIter_tuple (show a.heap.IsTuple g SG.toArray from q) ?_;refine⟨a.heap.objs.size,[a.heap.objs.size],_,_,SD,rfl,h.kept (S5:=a.toks) λf n c=>cw _ c,Rl g _,⟨_,dx _ rfl,rfl,rfl⟩,λf l=>?_,r⟩;have c:f=a.heap.objs.size:=by simpa using l
  subst c;exact h.uV (bl _) (h.aY.fresh<|bl _)
theorem bM.get{m:ax}:∀{J:List ab}{Sp:List aj}{a:Nat}{s:ab},bM m J Sp->J[a]?=Z s->∃v,Sp[a]?=Z v/\cD m s v
 |[],_,_,_,_,c=>by simp at c
 |s::J,_,0,_,e,c=>by
  let⟨v,@u,rfl,t,C⟩:=e;simp at c;subst c;exact⟨v,rfl,t⟩
 |s::J,_,a+1,_,e,c=>by
  let⟨v,@u,rfl,t,C⟩:=e;let⟨@L,b,d⟩:=bM.get (a:=a) C ⇑c;exact⟨L,by simpa using b,d⟩
variable{g:af}
theorem Jp(e:m g=Z (.lst w))(hd:bM m J w):lR (rE So g) m [g] J where
 go:=λT I o a s c=>by
  let⟨@v,b,f⟩:=hd.get c;have Sq:=dk.of (So:=So) (o g (.head _) _ e);refine⟨⟨w,v,Sq,b⟩,λd j ⟨h,i⟩=>?_⟩;subst h;rw[i w Sq]at b;cases b;exact⟨cZ.refl _,f.mono I.tup⟩
 stop:=λT I o=>⟨w,dk.of<|o g (.head _) _ e,by rw[<-hd.length];exact bl _⟩
theorem LI{n:bj}(e:m g=Z (.ec n<|.lst w))(hd:bM m J w):lR (rE So g) m [] J where
 go:=λT I o a s c=>by
  let⟨@v,b,f⟩:=hd.get c;have Sq:dk So T g w:=.inl (.inr ⟨n,I.ec _ _ _ e⟩);refine⟨⟨w,v,Sq,b⟩,λd j ⟨h,i⟩=>?_⟩;subst h;rw[i w Sq]at b;cases b;exact⟨cZ.refl _,f.mono I.tup⟩
 stop:=λT I o=>⟨w,.inl<|.inr ⟨n,I.ec _ _ _ e⟩,by rw[<-hd.length];exact bl _⟩
theorem JU(e:m g=Z (.tup w))(hd:bM m J w):lR (uf So g) m [] J where
 go:=λT I o a s c=>by
  let⟨@v,b,f⟩:=hd.get c;have Sq:=cu.of (So:=So) (I.tup g _ e);refine⟨⟨w,v,Sq,b⟩,λd j ⟨h,i⟩=>?_⟩;subst h;rw[i w Sq]at b;cases b;exact⟨cZ.refl _,f.mono I.tup⟩
 stop:=λT I o=>⟨w,cu.of<|I.tup g _ e,by rw[<-hd.length];exact bl _⟩
abbrev jW:=aA (List ab×Option (Nat×ak))
@[simp] def kj(s:ak):Option (List ab):=match s with
 |.im (.tup J)=>Z J
 |.lst J=>Z J
 |.cY J=>Z J
 |_=>Y
@[simp] def b4(M:aA bP):jW:=λB=>(M B).bind λq=>match q.1 with
 |.cf s=>(kj s).map λJ=>((J,Y),q.2)
 |.aQ a=>(et a q.2).bind λr=>(kj r.1).map λJ=>((J,if r.1.ez=X then Y else Z (a,r.1)),r.2)
def Cy(l:cC m s v Su)(c:kj s=Z J):
  ∃g,v=.ref g/\(((∃w,dk So m g w)/\lR (rE So g) m Su J)\/((∃w,cu So m g w)/\lR (uf So g) m Su J)):=by
 unfold kj at c;split at c
 ·cases c;let@⟨⟨g,@w,rfl,t,C⟩,rfl⟩:=l;exact⟨g,rfl,.inr ⟨⟨w,cu.of t⟩,JU t C⟩⟩
 ·cases c;let⟨g,@w,rfl,t,C,rfl⟩:=l;exact⟨g,rfl,.inl ⟨⟨w,dk.of t⟩,Jp t C⟩⟩
 ·cases c;let⟨g,w,@n,rfl,t,C,rfl⟩:=l;exact⟨g,rfl,.inl ⟨⟨w,.inl<|.inr ⟨n,t⟩⟩,LI t C⟩⟩
 ·cases c
def eh{M:aA bP}(e:dI b k M):mA b S1 k (b4 M):=by
 refine xB (MO e) λA m I x=>?_;let⟨B,N,u,@SR,z,ah,y,r⟩:=x;let⟨@⟨d,Sy⟩,t,C⟩:=bS.mp y;refine⟨B,N,d,Sy,z,ah,t,λv SD F Su i E f=>?_⟩;cases d with
 |cf s=>
  let⟨@J,j,l⟩:=cJ.mp C;cases l;let⟨@g,rfl,n⟩:=Cy (So:=b.K) E j;refine⟨g,rfl,?_⟩;rcases n with ⟨c,it⟩|⟨c,it⟩
  ·exact .inl ⟨c,r _ SD F Su i it trivial (cC.chg E) f⟩
  ·exact .inr ⟨c,r _ SD F Su i it trivial (cC.chg E) f⟩
 |aQ a=>
  let⟨@⟨s,S2⟩,j,l⟩:=bS.mp C;let⟨@J,D,G⟩:=cJ.mp l;cases G;let⟨L,SW,@b0,o,h,p,H⟩:=E7 i j;let@⟨E,rfl⟩:=E;rw[E]at o;cases o;rw[cB]at f;have q:=f.k0 H.symm;let⟨@g,rfl,n⟩:=Cy (So:=b.K) h D;have w:qP SD A b0 (if s.ez=X then Y else Z (a,s)):=by
   split
   ·trivial
   ·exact⟨_,E,h⟩
  refine⟨g,rfl,?_⟩;rcases n with ⟨c,it⟩|⟨c,it⟩
  ·exact .inl ⟨c,r _ SD SW b0 p it w h.chg q⟩
  ·exact .inr ⟨c,r _ SD SW b0 p it w h.chg q⟩
def tP{M:aA ak}:∀B u SR,b4 (ai M) B=Z (u,SR)->nZ Tp u.2:=by
 intro B u SR e;let⟨@⟨d,Sy⟩,t,C⟩:=bS.mp e;unfold ai at t;let⟨@q,c,a⟩:=cJ.mp t;cases a;let⟨@J,f,b⟩:=cJ.mp C;cases b
 trivial
variable{a:Nat}
def vB(U:a∈Tp):∀B u SR,b4 (ag a) B=Z (u,SR)->nZ Tp u.2:=by
 intro B u SR e;let⟨@⟨d,Sy⟩,t,C⟩:=bS.mp e;unfold ag at t;split at t
 ·cases t;let⟨@⟨s,S2⟩,f,b⟩:=bS.mp C;let⟨@J,g,c⟩:=cJ.mp b;cases c;show nZ Tp (if s.ez=X then Y else Z (a,s));split
  ·trivial
  ·exact U
 ·cases t
def gn(Q:Int)(p:Nat):List ab:=((range p).map λ(o:Nat)=>ab.int (Q+(o:Int)))
theorem Ql{Q:Int}:lR (ua Q p) m [] (gn Q p) where
 go:=λT I o a s c=>by
  have U:a<p:=by
   have:=(fX.mp c).1
   rwa [gn,a9,iP]at this
  refine⟨U,λd f ⟨b,e⟩=>?_⟩;subst b;rw[gn,gq,List.getElem?_range U]at c;cases c;exact⟨cZ.refl _,e⟩
 stop:=λT I o=>by
  show p<=_;rw[gn,a9,iP];exact bl _
def rf(a:Int):Prop :=( -1000000<=a/\a<=1000000)
noncomputable instance (a:Int):Decidable (rf a):=inferInstanceAs (Decidable<|_/\_)
@[simp] def je(M:aA (List bP)):jW:=λB=>(M B).bind λq=>(ip q.2 q.1).bind λJ=>match J with
 |[.im (.int i)]=>if rf i then Z ((gn 0 i.toNat,Y),q.2) else Y
 |_=>Y
def G5{s:ab}(e:mO m [.im s] Sp):∃v,Sp=[v]/\cD m s v:=by
 let⟨v,@u,rfl,⟨@Su,t,W⟩,C⟩:=e;cases (show u=[] from C);exact⟨v,rfl,t⟩
def zq{s c:ab}(e:mO m [.im s,.im c] Sp):∃v L,Sp=[v,L]/\cD m s v/\cD m c L:=by
 let⟨v,@u,rfl,⟨@Su,t,W⟩,C⟩:=e;let⟨@L,rfl,a⟩:=G5 C;exact⟨v,L,rfl,t,a⟩
def rt{g:bu}(h:eS b "range")(j:b.az "range" = Y)(d:fM b [g] M)(k:bV [g] b.env=[(ar,ck g b.env)]:=by rfl):mA b S1 (.Call (.Name "range" q) [g] [] SK) (je M):=by
 refine xB (Pc h j d k) λA m w l=>?_;let⟨B,N,u,@SR,z,ah,n,r⟩:=l;let⟨@⟨P,Sy⟩,t,C⟩:=bS.mp n;let⟨@J,o,a⟩:=bS.mp C;refine⟨B,N,P,Sy,z,ah,t,λSp SD F x e E p=>?_⟩;have s:=E.read e o;split at a
 ·rename_i i;split at a
  ·rename_i f;cases a;let⟨@v,rfl,c⟩:=G5 s;cases (show v=.int i from c);exact⟨i,rfl,by have:=f.1;lia,by have:=f.2;lia,r _ SD F [] e Ql trivial (λg d=>nomatch d) (by rw[cB];exact p.less (List.Perm.refl _))⟩
  ·cases a
 ·cases a
def yU:∀B u SR,je M B=Z (u,SR)->nZ Tp u.2:=by
 intro B u SR e;let⟨@⟨P,Sy⟩,t,C⟩:=bS.mp e;let⟨@J,b,a⟩:=bS.mp C;split at a
 ·split at a
  ·cases a;trivial
  ·cases a
 ·cases a
def sZ(b:aL)(R:List bu)(M:aA Bool):Prop:=(∀ ⦃q⦄,F8 b R (jh M) q)
def cP:aA Bool:=(λB=>Z (X,B))
def zg:sZ b [] cP:=by
 intro G j A m D E a;let⟨B,N,f,@SR,z,ah,c,r⟩:=a;cases c;exact J7 G j A m D E (r m N z<|br.perm ah<|List.Perm.refl _)
def lQ{M:aA Bool}(e:ix b h M):sZ b [h] M:=Li e
@[simp] def jn(SV:List Nat)(B:a7):a7:=SV.map λa=>B.getD a Y
def kx:List Nat->a7->a7
 |[],B=>B
 |a::u,B=>kx u (match B[a]? with|some (Z _)=>B.set a (Z .dB)|_=>B)
@[simp] def iM:List Nat->a7->a7->a7
 |a::u,n::aO,B=>iM u aO (B.set a n)
 |_,_,B=>B
def g6(own:Nat)(S1:fp)(h:aA Bool)(c:aA ak): List ab -> List ab -> a7 -> Option (List ab × a7)
  |[],a,aO => Z (a,aO)
  |d :: u,a,aO => (S1 (.im d)<|replicate own Y ++ aO).bind λSy => (h Sy).bind λq => if q.1=X then (c q.2).bind λr => match r.1 with
      |.im s => if a.length<100000 then g6 own S1 h c u (a ++ [s]) (r.2.drop own) else Y
      |_ => Y
    else g6 own S1 h c u a (q.2.drop own)
@[simp] def b1(own:Nat)(SV:List Nat)(Q:jW)(S1:fp)(h:aA Bool)(c:aA ak):aA ak:=λB=>(Q B).bind λq=>(g6 own S1 h c q.1.1 []<|jn SV q.2).map λr=>(.lst r.1,lb q.1.2<|iM SV r.2 q.2)
def oA(own p:Nat):List Nat:=((range p).map (·+own))
def Qj(e:B[a]?=Z n):B.getD a Y=n:=by rw[cN,e];rfl
def bE.void(z:bE m B A N)(a:Nat):∃F SW,bE m (match B[a]? with|some (Z _)=>B.set a (Z .dB)|_=>B) A F/\lX m (B.getD a Y) (A.getD a Y) SW/\(F++SW).Perm N:=by
 split
 ·rename_i s hd;let⟨v,F,@SW,t,C,b,d⟩:=z.out hd;refine⟨SW,F,b,?_,d⟩;rw[Qj hd,cN,t];exact⟨v,rfl,C⟩
 ·rename_i e;refine⟨N,[],z,?_,by rw[cB]⟩;have:B.getD a Y=Y:=by
   rw[cN];cases c:B[a]? with
   |none=>rfl
   |some n=>
    cases n with
    |none=>rfl
    |some s=>exact absurd c (e s)
  rw[this];exact rfl
theorem Br{m:ax}{A:a3}:∀{SV:List Nat}{B:a7}{N:List af},SV.Nodup->bE m B A N->∃F SW,bE m (kx SV B) A F/\bE m (jn SV B) (SV.map λa=>A.getD a Y) SW/\(F++SW).Perm N
 |[],B,N,_,z=>⟨N,[],z,⟨rfl,rfl⟩,by rw[cB]⟩
 |a::u,B,N,ah,z=>by
  let⟨F,@SW,t,C,f⟩:=z.void a;have b:=gV.mp ah;let⟨g,@d,h,e,j⟩:=Br (SV:=u) b.2 t;refine⟨g,SW++d,h,⟨_,_,SW,d,rfl,C,?_,rfl⟩,kM.trans<|(ee _ j).trans<|dC.trans f⟩;have c:jn u (match B[a]? with|some (Z _)=>B.set a (Z .dB)|_=>B)=jn u B:=by
   unfold jn;refine mm λi k=>?_;split
   ·rw[cN,cN,nJ];rintro rfl;exact b.1 k
   ·rfl
  rw[c]at e;exact e
def bE.JX(z:bE m B A N)(e:lX m n (A.getD a Y) Ss):∃F SW,bE m (B.set a n) A F/\(F++SW).Perm (N++Ss):=by
 cases n with
 |some s=>
  let⟨@v,c,l⟩:=e;refine z.back l ?_;rw[cN]at c;cases r:A[a]? with
  |none=>rw[r]at c;cases c
  |some d=>rw[r]at c;rw[show d=Z v from c]
 |none=>
  cases (show Ss=[] from e);rw[cB];by_cases U:a<B.length
  ·cases r:B[a]? with
   |none=>exact absurd (List.getElem?_eq_none_iff.mp r) ⋯
   |some d=>
    cases d with
    |none=>
     refine⟨N,[],?_,by rw[cB]⟩;have:B.set a Y=B:=by
      refine pz λi=>?_;by_cases c:a=i
      ·subst c;rw[r,sg U]
      ·rw[nJ c]
     rw[this];exact z
    |some s=>
     let⟨v,F,@SW,t,C,k,o⟩:=z.out r;have gen:∀{B:a7}{A:a3}{N:List af}{a:Nat},bE m B A N->∃F SW,bE m (B.set a Y) A F/\(F++SW).Perm N:=by
      intro B;induction B with
      |nil=>intro A N a z;exact⟨N,[],by simpa using z,by rw[cB]⟩
      |cons n B f=>
       intro A N a z;let⟨d,u,O,@SN,rfl,g,b,rfl⟩:=z;cases a with
       |zero=>exact⟨SN,O,⟨d,u,[],SN,rfl,rfl,b,rfl⟩,dC⟩
       |succ a=>
        let⟨aO,@Sv,h,j⟩:=f (a:=a) b;refine⟨O++aO,Sv,⟨d,u,O,aO,rfl,g,h,rfl⟩,?_⟩;rw[bC];exact ee _ j
     exact gen z
  ·refine⟨N,[],?_,by rw[cB]⟩;rw[List.set_eq_of_length_le ⋯];exact z
theorem Bd{m:ax}{A:a3}:∀{SV:List Nat}{aO B:a7}{N Ss:List af},bE m B A N->bE m aO (SV.map λa=>A.getD a Y) Ss->∃F SW,bE m (iM SV aO B) A F/\(F++SW).Perm (N++Ss)
 |[],aO,B,N,Ss,z,_=>⟨N,Ss,by cases aO<;>exact z,List.Perm.refl _⟩
 |a::u,[],B,N,Ss,z,e=>⟨N,Ss,z,List.Perm.refl _⟩
 |a::u,n::aO,B,N,Ss,z,e=>by
  let⟨d,I,g,@h,c,t,C,rfl⟩:=e;cases c;let⟨F,@O,b,f⟩:=z.JX t;let⟨SW,@SN,S6,S8⟩:=Bd (SV:=u) (aO:=aO) b C;refine⟨SW,SN++O,S6,?_⟩;rw[<-bC,<-bC];refine (fq O S8).trans ?_;rw[bC];refine (ee F dC).trans ?_;rw[<-bC];exact fq _ f
def LW:∀{SV:List Nat}{aO B:a7},SV.length=aO.length->SV.Nodup->iM SV aO (kx SV B)=iM SV aO B:=by
 have m:∀{u:List Nat}{aO B:a7}{a:Nat}{n:Option ak},a∉u->iM u aO (B.set a n)=(iM u aO B).set a n:=by
  intro u;induction u with
  |nil=>intro aO B a n W;cases aO<;>rfl
  |cons i u b=>
   intro aO B a n e;cases aO with
   |nil=>rfl
   |cons h aO=>
    have g:a≠i:=λc=>e (by rw[c];exact .head _);show iM u aO ((B.set a n).set i h)=(iM u aO<|B.set i h).set a n;rw[ES _ _ g,b λd=>e<|.tail _ d]
 have j:∀{u:List Nat}{B:a7}{a:Nat}{n:Option ak},a∉u->kx u (B.set a n)=(kx u B).set a n:=by
  intro u;induction u with
  |nil=>intro B a n W;rfl
  |cons i u b=>
   intro B a n e;have g:a≠i:=λc=>e (by rw[c];exact .head _);show kx u (match (B.set a n)[i]? with|some (Z _)=>(B.set a n).set i (Z .dB)|_=>B.set a n)=(kx u (match B[i]? with|some (Z _)=>B.set i (Z .dB)|_=>B)).set a n;rw[nJ g];cases B[i]? with
   |none=>exact b λd=>e (.tail _ d)
   |some r=>
    cases r with
    |none=>exact b λd=>e (.tail _ d)
    |some s=>
     show kx u ((B.set a n).set i<|Z .dB)=_;rw[ES _ _ g];exact b λd=>e (.tail _ d)
 intro SV;induction SV with
 |nil=>intro aO B W W;cases aO<;>rfl
 |cons a u b=>
  intro aO B k ah;have f:=gV.mp ah;cases aO with
  |nil=>cases k
  |cons h aO=>
   have l:u.length=aO.length:=by simpa using k
   show iM u aO ((kx u (match B[a]? with|some (Z _)=>B.set a (Z .dB)|_=>B)).set a h)=iM u aO (B.set a h);split
   ·rw[j f.1,w4,<-j f.1,b l f.2]
   ·rw[<-j f.1,b l f.2]
theorem Ea{m:ax}{B:a7}{u:a3}{N:List af}(e:bE m B u N):∀{own:List aD},bE m (replicate own.length Y++B) (own.map (λ_=>Y)++u) N
 |[]=>e
 |d::own=>⟨Y,_,[],N,rfl,rfl,Ea e (own:=own),rfl⟩
theorem wR{m:ax}:∀{p:Nat}{B:a7}{A:a3}{N:List af},bE m B A N->∃F SW,bE m (B.drop p) (A.drop p) F/\(F++SW).Perm N
 |0,B,A,N,e=>⟨N,[],e,by rw[cB]⟩
 |p+1,[],A,N,e=>by
  cases e.1;exact⟨[],N,⟨rfl,rfl⟩,List.Perm.refl _⟩
 |p+1,n::B,A,N,e=>by
  let⟨d,u,O,@SN,rfl,t,C,rfl⟩:=e;let⟨F,@SW,a,b⟩:=wR (p:=p) C;exact⟨F,SW++O,a,by rw[<-bC];exact (fq O b).trans dC⟩
def br.both(g:br m N SD (F++Su)):br m N SD F:=g.less (List.Perm.refl _)
theorem bM.snoc:∀{J:List ab}{Sp:List aj}{s:ab}{v:aj},bM m J Sp->cD m s v->bM m (J++[s]) (Sp++[v])
 |[],Sp,s,v,e,l=>by cases (show Sp=[] from e);exact⟨v,[],rfl,l,rfl⟩
 |c::J,Sp,s,v,e,l=>by
  let⟨L,@u,rfl,t,C⟩:=e;exact⟨L,u++[v],rfl,t,C.snoc l⟩
variable{Q:jW}
def GS(ah:SV.Nodup)(e:fz (b1 own.length SV Q y cT TM) A m D):
  vC own SV (w0 Q) (λ_=>ya (oA own.length SV.length) y) (λ_=>jh cT) (λ_=>fz TM) A m D:=by
 let⟨B,N,u,@SR,z,f2,f4,r⟩:=e;let⟨@⟨⟨w,n⟩,Sy⟩,t,C⟩:=bS.mp f4;let⟨@⟨J,ca⟩,f8,ga⟩:=cJ.mp C;cases ga;refine⟨B,N,(w,n),Sy,z,f2,t,λTw SD F Su ge it gl gt g1 mb=>?_⟩;let⟨al,@I,cd,E,S4⟩:=Br ah ge;have ce:br m N SD (I++(al++Su)):=g1.k0 (by
  refine (fq Su S4.symm).trans ?_;rw[bC];exact kM)
 have ch:=df.mp ce.ah;have g2:∀d∈al++Su,gd SD d:=λd x=>by
  rcases dt.mp x with x|x
  ·exact cd.chg d x
  ·exact gt d x
 have am:∀{SP:ax}{SW:List af},br SD I SP SW->∀g∈al++Su,∀L,SD g=Z L->SP g=Z L:=λj g b L c=>j.keep g L c λe=>ch.2.2 g e g b rfl;refine⟨λa H SI T=>H+a=w.length/\∃k aO G,bE T aO (SV.map λa=>A.getD a Y) G/\aO.length=SV.length/\br SD I T G/\bM T k SI/\g6 own.length y cT TM (w.drop a) k aO=Z (J,ca),
  ⟨w.length,rfl,[],jn SV Sy,I,E,by rw[jn,a9],br.perm ch.1<|List.Perm.refl _,rfl,f8⟩,?_⟩;rintro a H SI T ⟨an,k,aO,G,ci,g3,Sr,cl,ap⟩;by_cases co:a<w.length
 ·let@⟨hd,he⟩:=it.go T Sr.tup (λg b=>am Sr g<|dQ _ b) a w[a] (by simp[co]);rw[jz co,g6]at ap;let⟨@Tq,hf,hm⟩:=bS.mp ap;let⟨@⟨f,a2⟩,hw,P⟩:=bS.mp hm;refine .inr ⟨hd,λcr SP=>(H-1)+(a+1)=w.length/\∃k aO G,bE SP aO (SV.map λa=>A.getD a Y) G/\aO.length=SV.length/\br SD I SP G/\bM SP k cr/\g6 own.length y cT TM (w.drop<|a+1) k aO=Z (J,ca),λcr SP e=>⟨H-1,⋯,e⟩,λd SP x=>?_⟩;let@⟨l,h0⟩:=he d SP x;have ii:=ci.mono l.tupS λg W n c=>l g n c;have cs:=Sr.same l;have as:=cl.mono l.tupS.tup;refine⟨replicate own.length Y++aO,G,.im w[a],[],Tq,Ea ii,⟨h0,rfl⟩,by rw[cB];exact cs.ah,hf,λbd io db a1 ds be=>⟨λi v h=>?_,?_⟩⟩
  ·
   have mo:own.length<=i:=by
    by_cases jp:i<own.length
    ·rw[jD,jR ⇑jp,gq]at h;cases c:own[i]? with
     |none=>rw[c]at h;cases h
     |some ms=>rw[c]at h;cases h
    ·lia
   have m0:i<own.length+SV.length:=by
    have:=(fX.mp h).1
    rwa [jD,c5,a9,a9]at this
   have an:i∈oA own.length SV.length:=cH.mpr ⟨i-own.length,gr.mpr ⋯,⋯⟩;exact (a1.2 i an).trans h
  ·have dL:br SD I io db:=cs.seq (by rw[cB]at be;exact be);have as:=as.mono be.tup.tup;have eq:bd.drop own.length=SV.map λa=>A.getD a Y:=by
    have na:=ds.len;refine pz λi=>?_;by_cases h:i<SV.length
    ·have an:i+own.length∈oA own.length SV.length:=cH.mpr ⟨i,gr.mpr h,rfl⟩;have:=a1.2 _ an;rw[md,s6,this,jD,mL ↥0,a9,B7]
    ·have aX:bd.length<=own.length+SV.length:=by
      rw[a1.1,jD,c5,a9,a9];exact bl _
     rw[vL (by rw[gZ];lia),vL (by rw[a9];lia)]
   have ev:bd.length=own.length+SV.length:=by rw[a1.1,jD,c5,a9,a9]
   refine⟨Tq,db,f,a2,ds,dL.ah,hw,λnb bi M bm=>?_⟩;have R:=dL.seq bm;dsimp only at P ⊢;cases f with
   |false=>
    rw[aM dA]at P ⊢;let⟨S,@ex,o,bn⟩:=wR (p:=own.length) M;rw[eq]at o;exact⟨⋯,k,a2.drop own.length,S,o,by rw[gZ,M.len,ev];lia,R.less bn,as.mono bm.tup.tup,P⟩
   |true=>
    rw[aJ rfl]at P ⊢;let⟨@⟨v,fd⟩,kt,O⟩:=bS.mp P;dsimp only at O;split at O
    ·rename_i s;split at O
     ·rename_i ne;refine⟨a2,bi,.im s,fd,M,R.ah,kt,λL nl S nm o kw bs=>?_⟩;let@⟨lc,rfl⟩:=kw;rw[cB]at bs;have fn:=(as.mono bm.tup.tup).mono bs.tup.tup;refine⟨DV (show SI.length<=100000 by rw[<-fn.length];lia) ∅,?_⟩;let⟨lf,@nn,fr,li⟩:=wR (p:=own.length) o;rw[eq]at fr;exact⟨⋯,k++[s],fd.drop own.length,lf,fr,by rw[gZ,o.len,ev];lia,(R.seq bs).less li,fn.snoc lc,O⟩
     ·cases O
    ·cases O
 ·have U:a=w.length:=⋯
  subst U;refine .inl ⟨it.stop T Sr.tup<|λg b=>am Sr g<|dQ _ b,λbv f0=>?_⟩;rw[nv (bl _),g6]at ap;cases ap;have lm:bE T (kx SV Sy) A al:=cd.mono Sr.tup λg b=>am Sr g (dK _ b);let⟨bi,@f1,M,ln⟩:=Bd lm ci;rw[LW (by rw[g3]) ah]at M;have ls:qP T A Su n:=by
   cases n with
   |none=>trivial
   |some q=>
    let⟨a,s⟩:=q;let⟨@v,lv,lw⟩:=gl;exact⟨v,lv,lw.mono Sr.tup λg b=>am Sr g<|dQ _ b⟩
  let⟨S,@ex,o,bn⟩:=x4 (Su:=Su) M ls;have l:cZ T (upd T bv<|.lst SI):=(cZ.refl T).upd f0;have R:br m N T S:=(ce.trans Sr g2).less (aO:=ex++f1) (by
   rw[<-bC];refine (fq f1 bn).trans ?_;rw[bC];refine (ee bi dC).trans ?_;rw[<-bC];refine (fq Su ln).trans ?_;rw[bC];exact kM)
  exact r _ _ S [bv] (o.mono l.tupS λg W n c=>l g n c) ⟨bv,SI,rfl,eT,cl.mono l.tupS.tup,rfl⟩ (R.add f0 o.chg)
def oS{TF:bu}{R:List bu}{SQ:gE}(c:b.calm=X)(SM:hS b SQ own SV)(ah:SV.Nodup)(U:mA b S1 Tr Q)(f:∀a,hv (b.fL (fT b own SV) SQ a) (oA own.length SV.length) S1 y)(g:∀a,sZ (b.fL (fT b own SV) SQ a) R cT)(h:∀a,cj (b.fL (fT b own SV) SQ a) TF TM)(i:∀d,ma Tr b.env d=pure d:=by intro W;rfl):cj b (.ListComp TF [⟨S1,Tr,R,0⟩] SQ SK) (b1 own.length SV Q y cT TM):=
 ey (P4 c SM U f g h i) λA m D e=>GS ah e
end
@[simp] def iA(SX:List Nat):List ak->a7->Nat->List ak
 |s::J,n::B,i=>(if s.ez=X then s else if i∈SX then n.getD .dB else .dB)::iA SX J B (i+1)
 |s::J,[],i=>(if s.ez=X then s else .dB)::iA SX J [] (i+1)
 |[],_,_=>[]
@[simp] def c_(p H:Nat)(SX:List Nat)(M:bH):c0:=λJ=>if J.length=p then match M (J.map Z++replicate (H-p) Y) with
 |some (.es u,B)=>Z (u,iA SX J B 0)
 |some (.bo,B)=>Z (.im .aV,iA SX J B 0)
 |_=>Y else Y
theorem CM{m:ax}:∀{J:List ak}{Sp:List aj}{N:List af}{H:Nat},ef m J Sp N->bE m (J.map Z++replicate H Y) (Sp.map Z++replicate H Y) N
 |[],Sp,N,H,e=>by
  let@⟨rfl,rfl⟩:=e;show bE m (replicate H Y) (replicate H Y) [];induction H with
  |zero=>exact⟨rfl,rfl⟩
  |succ H a=>exact⟨Y,_,[],[],rfl,rfl,a,rfl⟩
 |s::J,Sp,N,H,e=>by
  let⟨v,u,F,@SW,rfl,t,C,rfl⟩:=e;exact⟨Z v,_,F,SW,rfl,⟨v,rfl,t⟩,CM C,rfl⟩
theorem vS{m T:ax}{SX:List Nat}(I:gc m T):∀{J:List ak}{Sp:List aj}{p:List af}{B:a7}{A:a3}{N:List af}{a:Nat},ef m J Sp p->bE T B A N->(∀(i:Nat) (v:aj),(a+i)∈SX->Sp[i]?=Z v->A[i]?=Z (Z v))->
  ∃Su Ss,ef T (iA SX J B a) Sp Su/\(Su++Ss).Perm N
 |[],Sp,p,B,A,N,a,e,z,_=>⟨[],N,by unfold iA;exact⟨e.1,rfl⟩,List.Perm.refl _⟩
 |s::J,Sp,p,[],A,N,a,e,z,o=>by
  let⟨v,u,O,@SN,rfl,t,C,rfl⟩:=e;let@⟨rfl,rfl⟩:=z;let⟨Su,@Ss,b,f⟩:=vS (B:=[]) (A:=[]) (N:=[]) (a:=a+1) I C ⟨rfl,rfl⟩ λi v q r=>by
   have:=o (i+1) v (by rw[show a+(i+1)=a+1+i by lia];exact q) ⇑r;simp at this
  rw[iA];refine⟨Su,Ss,⟨v,u,[],Su,rfl,?_,b,rfl⟩,f⟩;split
  ·rename_i h;have:=t.mono I λg k=>by rw[t.ez h]at k;cases k
   rw[t.ez h]at this;exact this
  ·exact rfl
 |s::J,Sp,p,n::B,A,N,a,e,z,o=>by
  let⟨v,u,O,@SN,rfl,t,C,rfl⟩:=e;let⟨d,j,aO,@Sv,rfl,x,y,rfl⟩:=z;let⟨Su,@Ss,b,f⟩:=vS (B:=B) (A:=j) (a:=a+1) I C y λi v q r=>by
   have:=o (i+1) v (by rw[show a+(i+1)=a+1+i by lia];exact q) ⇑r;simpa using this
  rw[iA];split
  ·rename_i h;have w:=t.mono I λg k=>by rw[t.ez h]at k;cases k
   rw[t.ez h]at w;refine⟨Su,Ss++aO,⟨v,u,[],Su,rfl,w,b,rfl⟩,?_⟩;rw[<-bC];exact (fq aO f).trans dC
  ·split
   ·rename_i D;have E:d=Z v:=by
     have:=o 0 v D rfl;simpa using this
    subst E;cases n with
    |none=>
     refine⟨Su,Ss++aO,⟨v,u,[],Su,rfl,rfl,b,rfl⟩,?_⟩;rw[<-bC];exact (fq aO f).trans dC
    |some c=>
     let⟨@G,F,l⟩:=x;cases F;refine⟨aO++Su,Ss,⟨v,u,aO,Su,rfl,l,b,rfl⟩,?_⟩;rw[bC];exact ee _ f
   ·refine⟨Su,Ss++aO,⟨v,u,[],Su,rfl,rfl,b,rfl⟩,?_⟩;rw[<-bC];exact (fq aO f).trans dC
section
variable{R:bA}{l:bk}{So:Φ}{az:aD->Option ae}{SA:a5}
def N5{Tu:aD}{x:af}{SY:List aD}{o:Nat}{M:bH}(N:fU So d Tu z x fd)(SM:n9 SY SJ (dN z))(y:SJ.length=p)(I:∀a∈SX,a<p)(A:∀(Q:ae) (O:bw) (Tc:List eL) (j:ao) (m:ax) (Sv:gk),eE o (O.deeper<|jv Tu (dN z) j.heap.objs.size x Q)->ja (lK hE R l So az SA SY Tu (dN z) x Q O Tc j m Sv).mX SX (gb z) M):
  hC R l So az SA hE (o+1) x fd SJ (jM p<|c_ p SY.length SX M):=by
 refine N.ok SM (λSp m D Sv e=>e.1.trans y.symm) (λQ O Tc j m Sp D Sv B e=>⟨_,A Q O Tc j m Sv B,?_⟩);let@⟨q,⟨J,h,u,@G,n,ah,b,r⟩⟩:=e;have C:J.length=p:=n.length.trans q;unfold c_ at b;rw[aJ C]at b;have z:=CM (H:=SY.length-p) n;have Sx:start SY Sp=Sp.map Z++replicate (SY.length-p) Y:=by unfold start;rw[q]
 rw[Sx];have fin:∀{f:a3}{T:ax}{S3:List af}{SR:a7}{v:aj}{Su:List af},iA SX J SR 0=G->dP SX (Sp.map Z++replicate (SY.length-p) Y) f->bE T SR f S3->cC T u v Su->br m h T (S3++Su)->D v T:=λ{f T S3 SR v Su} E Tp g k Sr=>by
  let⟨b0,@Ss,s,F⟩:=vS (SX:=SX) (a:=0) Sr.tup n g λi v t w=>by
   rw[zp]at t;rw[Tp.2 i t,jR (by rw[a9];exact (fX.mp w).1),gq,w];rfl
  rw[E]at s;refine r v T Su b0 k s (Sr.less (aO:=Ss) ?_);rw[bC];exact (ee Su F).trans dC
 split at b
 ·rename_i Ti SR c;cases b;exact⟨_,h,.es u,SR,z,ah,c,λv f T S3 Su Tp g k Sr=>fin rfl Tp g k Sr⟩
 ·rename_i SR c;cases b;exact⟨_,h,.bo,SR,z,ah,c,λf T S3 Tp g Sr=>fin rfl Tp g ⟨rfl,rfl⟩ (by rw[cB];exact Sr)⟩
 ·cases b
end
def cb(m:ax)(s:ak)(D:cI):Prop:=(∀v T Su,cZ m T->cC T s v Su->Su.Nodup->(∀g∈Su,m g=Y)->D v T)
def cb.FW{s:ab}(r:cb m (.im s) D)(j:cZ m T)(e:cD T s v):D v T:=r v T [] j ⟨e,rfl⟩ jb (λg a=>nomatch a)
def cb.i{m:ax}{s:ab}{D:cI}{v:aj}(r:cb m (.im s) D)(e:cD m s v):D v m:=r.FW (cZ.refl m) e
def cb.l{q:af}(r:cb m (.lst J) D)(a:m q=Y)(e:bM m J w):D (.ref q) (upd m q<|.lst w):=by
 have j:cZ m (upd m q<|.lst w):=(cZ.refl m).upd a;exact r _ _ [q] j ⟨q,w,rfl,eT,e.mono j.tupS.tup,rfl⟩ (ep _ _) λg b=>by rw[cA.mp b];exact a
def cb.t{m:ax}{J:List ab}{w:List aj}{D:cI}{q:af}(r:cb m (.im<|.tup J) D)(a:m q=Y)(e:bM m J w):D (.ref q) (upd m q<|.tup w):=by
 have j:cZ m (upd m q<|.tup w):=(cZ.refl m).upd a;exact r.FW j ⟨q,w,rfl,eT,e.mono j.tupS.tup⟩
section
variable{b:aL}
def dV.imp{x:ae->ae->dR ae}{u:b0}(e:dV b x u)(a:∀d y m D,Ti d y m D->u d y m D):dV b x Ti:=λG j A m d y v L D E c f g=>e G j A m d y v L D E c f (a d y m D g)
def eA.imp{x:ae}{u Ti:List aj->ax->cI->Prop}(e:eA b x u)(a:∀w m D,Ti w m D->u w m D):eA b x Ti:=λG j A m w SO D E c d=>e G j A m w SO D E c (a w m D d)
def iK.imp{u:b0}(e:iK b u)(a:∀d y m D,Ti d y m D->u d y m D):iK b Ti:=λc f G j A m d y v L D E g h i=>e c f G j A m d y v L D E g h (a d y m D i)
def e5.i{m:ax}{s:ab}{v:aj}(e:e5 m (.im s) v):cD m s v:=e.elim λ_ l=>l.1
end
abbrev fW:=ak->ak->Option ak
@[simp] def i_(aO:Int->Int->Bool)(M:Int->Int->ab):fW:=λg f=>match g,f with
 |.im (.int a),.im (.int i)=>if aO a i=X then Z (.im<|M a i) else Y
 |_,_=>Y
def FV{aO:Int->Int->Bool}{M:Int->Int->ab}{g f:ak}(e:i_ aO M g f=Z s):∃a i,g=.im (.int a)/\f=.im (.int i)/\aO a i=X/\s=.im (M a i):=by
 unfold i_ at e;split at e
 ·rename_i a i;split at e
  ·rename_i b;cases e;exact⟨a,i,rfl,rfl,b,rfl⟩
  ·cases e
 ·cases e
section
variable{b:aL}
variable{x:ae->ae->dR ae}{M:Int->Int->aj}{e:Int->Int->ab}
def u5{aO:Int->Int->Prop}{SN:Int->Int->Bool}(n:dV b x (pW aO M))(f:∀a i,SN a i=X->aO a i)(g:∀m a i,cD m (e a i)<|M a i):eW b x (i_ SN e):=
 n.imp λd y m D ⟨Td,Te,s,h,j,c,r⟩=>by
  let⟨a,@i,rfl,rfl,k,rfl⟩:=FV c;exact⟨a,i,h.i,j.i,f a i k,cb.i r<|g m a i⟩
def tn(n:dV b x (mg M))(f:∀m a i,cD m (e a i)<|M a i):eW b x (i_ (λ_ W=>X) e):=
 n.imp λd y m D ⟨Td,Te,s,g,h,c,r⟩=>by
  let⟨a,@i,rfl,rfl,j,rfl⟩:=FV c;exact⟨a,i,g.i,h.i,cb.i r<|f m a i⟩
@[simp] def p4:fW:=i_ (λ_ W=>X) λa i=>.int (a-i)
def hq(a i:Int):Bool:=(!(decide (a_.Int.intBits a>tO)&&decide (a_.Int.intBits i>tO)&&a_.Int.intTooBig (a_.Int.intBits a+a_.Int.intBits i)))
@[simp] def iT:fW:=i_ hq λa i=>.int (a*i)
@[simp] def mi:fW:=i_ (λ_ i=>decide (0<i/\i<1073741824)) λa i=>.int (a/i)
@[simp] def hB:fW:=i_ (λ_ i=>decide (0<i)) λa i=>.int (a%i)
@[simp] def se:fW:=i_ (λa i=>decide (0<=i/\i<=1000000/\a.natAbs<2^64)) λa i=>.int (a^i.toNat)
@[simp] def fR:fW:=i_ (λ_ W=>X) λa i=>.av (decide (a<=i))
@[simp] def pa:fW:=i_ (λ_ W=>X) λa i=>.av (decide (i<a))
@[simp] def Gi:fW:=i_ (λ_ W=>X) λa i=>.av (decide (i<=a))
def uy:eW b (f3 .Sub) p4:=tn II λ_ W W=>rfl
def kK:eW b (f3 .Mult) iT:=u5 KZ (λa i e=>by unfold hq at e;unfold IntMulOk;rw[jo]at e;rw[e];exact dA) λ_ W W=>rfl
def qC:eW b (f3 .FloorDiv) mi:=u5 QH (λa i e=>show 0<i/\i<1073741824 from hz e) λ_ W W=>rfl
def iI:eW b (f3 .Mod) hB:=u5 MW (λa i e=>hz e) λ_ W W=>rfl
def sq:eW b (f3 .Pow) se:=u5 PS (λa i e=>show 0<=i/\i<=1000000/\a.natAbs<2^64 from hz e) λ_ W W=>rfl
def mh:eW b (d9 .LtE) fR:=tn IB λ_ W W=>rfl
def xH:eW b (d9 .Gt) pa:=tn QO λ_ W W=>rfl
def OR:eW b (d9 .GtE) Gi:=tn Kz λ_ W W=>rfl
def Lo:dV b (f3 .Add) (λd y m D=>∃g f SI,d=.ref g/\y=.ref f/\cu b.K m g []/\cu b.K m f SI/\D (.ref f) m):=by
 intro G j A m d y v L D E n o e;let⟨g,f,@SI,rfl,rfl,q,s,r⟩:=e;cases n;cases o;let⟨@SG,t,u,W⟩:=E.tuple q;let⟨@C,F,Tj,W⟩:=E.tuple s;have c:SG=[]:=t.t_.mpr rfl;subst c;let⟨@⟨cls,w,data,aQ⟩,a,h,⟨@p,hd⟩⟩:=id u;let⟨@⟨H,x,data2,z⟩,i,k,⟨@B,l⟩⟩:=id Tj;simp only at h hd k l;subst h hd k l;exact wq ⟨_,a,rfl⟩ ⟨_,i,rfl⟩ vR we yj xE (ym _ _) (tuple_addW0 g f _ _ p B w x aQ z rfl) ⟨a,i,.ref f,m,E,rfl,r⟩
@[simp] def e0:fW:=λg f=>match g,f with
 |.im (.int a),.im (.int i)=>Z (.im<|.int<|a+i)
 |.im (.tup d),.im (.tup y)=>if d.length+y.length<=100000 then Z (.im<|.tup<|d++y) else Y
 |.lst d,.lst y=>if d.length+y.length<=100000 then Z (.lst<|d++y) else Y
 |.im (.str d),.im (.str y)=>if d.length+y.length<=100000 then Z (.im<|.str<|d++y) else Y
 |_,_=>Y
theorem bM.app:∀{g f:List ab}{d y:List aj},bM m g d->bM m f y->bM m (g++f) (d++y)
 |[],f,d,y,e,o=>by cases (show d=[] from e);exact o
 |s::g,f,d,y,e,o=>by
  let⟨v,@u,rfl,t,C⟩:=e;exact⟨v,u++y,rfl,t,C.app o⟩
def bM.nil{m:ax}{g:List ab}(e:bM m g []):g=[]:=by
 cases g with
 |nil=>rfl
 |cons s g=>let⟨W,@W,c,W⟩:=e;cases c
def gF:eW b (f3 .Add) e0:=by
 refine (Iw.or<|Lo.or<|Ii.or<|Hi.or PM).imp λd y m D A=>?_;let⟨Td,Te,@s,o,u,c,r⟩:=A;unfold e0 at c;split at c
 ·cases c;exact .inl ⟨_,_,o.i,u.i,cb.i r rfl⟩
 ·rename_i g f;split at c
  ·rename_i h;cases c;let⟨q,@w,rfl,t,C⟩:=o.i;let⟨j,@SI,rfl,n,e⟩:=u.i;refine .inr ?_;by_cases x:w=[]
   ·subst x;cases C.nil;exact .inl ⟨q,j,SI,rfl,rfl,cu.of t,cu.of n,cb.i r ⟨j,SI,rfl,n,e⟩⟩
   ·refine .inr (.inl ⟨q,j,w,SI,rfl,rfl,cu.of t,cu.of n,x,l6 (by rw[<-C.length,<-e.length];exact h),λz=>?_,λz p v=>cb.t r v<|C.app e⟩);subst z;cases e.nil;rw[cB]at r;exact cb.i r ⟨q,w,rfl,t,C⟩
  ·cases c
 ·rename_i g f;split at c
  ·rename_i h;cases c;let⟨W,q,@w,rfl,t,C,W⟩:=o;let⟨W,j,@SI,rfl,n,e,W⟩:=u;exact .inr (.inr (.inr (.inl ⟨q,j,w,SI,rfl,rfl,t,n,l6 (by rw[<-C.length,<-e.length];exact h),λp v=>cb.l r v<|C.app e⟩)))
  ·cases c
 ·rename_i g f;split at c
  ·rename_i h;cases c;exact .inr (.inr<|.inr<|.inr ⟨g,f,o.i,u.i,l6 h,cb.i r rfl⟩)
  ·cases c
 ·cases c
def LD(p:Nat){O:bw}{d y:ab}{L v:ae}(m:ab.bD p d=X)(aZ:ab.bD p y=X)(R:O.units+p+2<b6)(o:dS j.heap d L)(b:dS j.heap y v):SeqAt.RcAt O j L v (cy d y):=by
 cases d with
 |aV=>
  cases (show L=.none from o);cases y with
  |aV=>cases (show v=.none from b);exact Pk
  |av f=>cases (show v=.bool f from b);exact Hu f
  |int i=>let⟨@I,rfl⟩:=b;exact J1 i I
  |str k=>let⟨@I,rfl⟩:=b;exact QW k I
  |tup J=>let⟨g,n,S,@H,rfl,t,C,l,W⟩:=b;exact MT ⟨n,t,C,H,l⟩ ⋯
  |fn g=>cases p<;>cases aZ
  |aT g=>cases p<;>cases aZ
  |fd=>cases p<;>cases aZ
 |av f=>
  cases (show L=.bool f from o);cases y with
  |aV=>cases (show v=.none from b);exact I0 f
  |av h=>cases (show v=.bool h from b);exact P9 f h
  |int i=>let⟨@I,rfl⟩:=b;exact KJ f i I
  |str k=>let⟨@I,rfl⟩:=b;exact Qo f k I
  |tup J=>let⟨g,n,S,@H,rfl,t,C,l,W⟩:=b;exact Nf f ⟨n,t,C,H,l⟩ ⋯
  |fn g=>cases p<;>cases aZ
  |aT g=>cases p<;>cases aZ
  |fd=>cases p<;>cases aZ
 |int a=>
  let⟨@e,rfl⟩:=o;cases y with
  |aV=>cases (show v=.none from b);exact HZ a e
  |av h=>cases (show v=.bool h from b);exact Qt a e h
  |int i=>let⟨@I,rfl⟩:=b;exact L_ a e i I
  |str k=>let⟨@I,rfl⟩:=b;exact KO a e k I
  |tup J=>let⟨g,n,S,@H,rfl,t,C,l,W⟩:=b;exact Nv a e ⟨n,t,C,H,l⟩ ⋯
  |fn g=>cases p<;>cases aZ
  |aT g=>cases p<;>cases aZ
  |fd=>cases p<;>cases aZ
 |str a=>
  let⟨@e,rfl⟩:=o;cases y with
  |aV=>cases (show v=.none from b);exact Rz a e
  |av h=>cases (show v=.bool h from b);exact Qx a e h
  |int i=>let⟨@I,rfl⟩:=b;exact M8 a e i I
  |str k=>let⟨@I,rfl⟩:=b;exact JE a e k I
  |tup J=>let⟨g,n,S,@H,rfl,t,C,l,W⟩:=b;exact Jo a e ⟨n,t,C,H,l⟩ ⋯
  |fn g=>cases p<;>cases aZ
  |aT g=>cases p<;>cases aZ
  |fd=>cases p<;>cases aZ
 |fn g=>cases p<;>cases m
 |aT g=>cases p<;>cases m
 |fd=>cases p<;>cases m
 |tup J=>
  cases p with
  |zero=>cases m
  |succ p=>
  let⟨g,n,S,@H,rfl,t,C,l,s⟩:=o;have P:j.heap.IsTuple g S:=⟨n,t,C,H,l⟩;cases y with
  |aV=>cases (show v=.none from b);exact Le P ⋯
  |av h=>cases (show v=.bool h from b);exact Qd h P ⋯
  |int i=>let⟨@I,rfl⟩:=b;exact PI i I P ⋯
  |str k=>let⟨@I,rfl⟩:=b;exact KN k I P ⋯
  |fn g=>cases aZ
  |aT g=>cases aZ
  |fd=>cases aZ
  |tup Sx=>
   let⟨f,S7,q,@z,rfl,A,B,D,u⟩:=b;have Tv:j.heap.IsTuple f q:=⟨S7,A,B,z,D⟩;have aX:=s.length;have bp:=u.length;have E:S.toList.length=S.size:=by simp
   have F:q.toList.length=q.size:=by simp
   rw[E]at aX;rw[F]at bp;have r:=C6 (A:=O) (e:=λi=>cy (J.getD i .aV)<|Sx.getD i .aV) P Tv ⋯ λi G M=>by
    let⟨@Td,w,N⟩:=s.get (i:=i) (v:=S[i]) (by rw[gU];simp[G]);let⟨@Te,x,Q⟩:=u.get (i:=i) (v:=q[i]) (by rw[gU];simp[M]);rw[cN,w,cN,x];exact iz p (jK m w) (jK aZ x) (by show O.units+1+p+1<b6;lia) N Q
   rw[<-aX,<-bp,rk (J:=J) (Sx:=Sx) (λi d y g f=>by rw[cN,g,cN,f];rfl)]at r;rw[cy];exact r
@[simp] def er:fW:=λg f=>match g,f with
 |.im d,.im y=>if (ab.bD 8 d&&ab.bD 8 y)=X then Z (.im<|.av<|cy d y) else Y
 |.lst d,.lst y=>if (ab.du 8 d&&ab.du 8 y)=X then Z (.im<|.av<|fS d y) else Y
 |_,_=>Y
theorem zv:∀{d y:List ab},d.length≠y.length->fS d y=ar
 |[],[],e=>absurd rfl e
 |[],_::_,_=>rfl
 |_::_,[],_=>rfl
 |g::d,f::y,e=>by
  rw[fS,zv (λc=>e (by rw[dF,dF,c])),EG]
def oV{G:List (af×bj)}(E:aH b G A m j){g:af}{w:List aj}{J:List ab}(t:m g=Z (.lst w))(C:bM m J w):∃SG:List ae,j.heap.IsList g SG.toArray/\d0 j.heap J SG/\SG.length=J.length:=by
 let@⟨z,⟨SG,@p,a,c⟩⟩:=E.aY g _ t;have:=C.fh E.aY a;exact⟨SG,⟨_,c,rfl,p,rfl⟩,this,this.length.symm⟩
def hi(U:b.A.units+20<b6):eW b (d9 .Eq) er:=by
 intro G j A m d y v L D E p u M;let⟨Td,Te,@s,h,k,c,r⟩:=M;unfold er at c;split at c
 ·rename_i g f;split at c
  ·rename_i e;cases c;rw[cX]at e;exact LD 8 e.1 e.2 ⋯ (h.i.fh E.aY p) (k.i.fh E.aY u) b.prog b.w _ _ ⟨.av _,m,E,rfl,cb.i r rfl⟩
  ·cases c
 ·rename_i g f;split at c
  ·rename_i e;cases c;rw[cX]at e;let⟨W,q,@w,rfl,t,C,W⟩:=h;let⟨W,al,@SI,rfl,N,P,W⟩:=k;cases p;cases u;let⟨@Q,aX,R,o⟩:=oV E t C;let⟨@S,bp,T,x⟩:=oV E N P;by_cases n:g.length=f.length
   ·have:=Jr (A:=b.A) (e:=λi=>cy (g.getD i .aV)<|f.getD i .aV) aX bp (by rw[cO,cO,o,x];exact n) ⋯ λi z B=>by
     let⟨@Td,F,h⟩:=R.get (i:=i) (v:=Q.toArray[i]) (by simp at z;simp[z]);let⟨@Te,H,k⟩:=T.get (i:=i) (v:=S.toArray[i]) (by simp at B;simp[B]);rw[cN,F,cN,H];exact iz 8 (jK e.1 F) (jK e.2 H) (by show b.A.units+1+8+1<b6;lia) h k
    refine this b.prog b.w _ _ ⟨.av _,m,E,rfl,?_⟩;have I:=rk (J:=g) (Sx:=f) (c:=λi=>cy (g.getD i .aV)<|f.getD i .aV) (λi d y g f=>by rw[cN,g,cN,f];rfl);rw[<-n,GV,ka,GA]at I;rw[cO,o,I];exact cb.i r rfl
   ·refine N7 (A:=b.A) aX bp (by rw[cO,cO,o,x];simpa using n) ⋯ b.prog b.w _ _ ⟨.av _,m,E,rfl,?_⟩;rw[zv n]at r;exact cb.i r rfl
  ·cases c
 ·cases c
end
section
variable{b:aL}
def Og(p:Nat){O:bw}{d y:ab}{L v:ae}(m:ab.bD p d=X)(aZ:ab.bD p y=X)(R:O.units+p+2<b6)(o:dS j.heap d L)(b:dS j.heap y v):SeqAt.RcNeAt O j L v (!cy d y):=by
 cases d with
 |aV=>
  cases (show L=.none from o);cases y with
  |aV=>cases (show v=.none from b);exact K9
  |av f=>cases (show v=.bool f from b);exact LG f
  |int i=>let⟨@I,rfl⟩:=b;exact O3 i I
  |str k=>let⟨@I,rfl⟩:=b;exact RK k I
  |tup J=>let⟨g,n,S,@H,rfl,t,C,l,W⟩:=b;exact Nr ⟨n,t,C,H,l⟩ ⋯
  |fn g=>cases p<;>cases aZ
  |aT g=>cases p<;>cases aZ
  |fd=>cases p<;>cases aZ
 |av f=>
  cases (show L=.bool f from o);cases y with
  |aV=>cases (show v=.none from b);exact N4 f
  |av h=>cases (show v=.bool h from b);exact NS f h
  |int i=>let⟨@I,rfl⟩:=b;exact RV f i I
  |str k=>let⟨@I,rfl⟩:=b;exact HS f k I
  |tup J=>let⟨g,n,S,@H,rfl,t,C,l,W⟩:=b;exact JT f ⟨n,t,C,H,l⟩ ⋯
  |fn g=>cases p<;>cases aZ
  |aT g=>cases p<;>cases aZ
  |fd=>cases p<;>cases aZ
 |int a=>
  let⟨@e,rfl⟩:=o;cases y with
  |aV=>cases (show v=.none from b);exact JH a e
  |av h=>cases (show v=.bool h from b);exact MA a e h
  |int i=>let⟨@I,rfl⟩:=b;exact Nl a e i I
  |str k=>let⟨@I,rfl⟩:=b;exact LZ a e k I
  |tup J=>let⟨g,n,S,@H,rfl,t,C,l,W⟩:=b;exact Lw a e ⟨n,t,C,H,l⟩ ⋯
  |fn g=>cases p<;>cases aZ
  |aT g=>cases p<;>cases aZ
  |fd=>cases p<;>cases aZ
 |str a=>
  let⟨@e,rfl⟩:=o;cases y with
  |aV=>cases (show v=.none from b);exact LN a e
  |av h=>cases (show v=.bool h from b);exact KU a e h
  |int i=>let⟨@I,rfl⟩:=b;exact P_ a e i I
  |str k=>let⟨@I,rfl⟩:=b;exact Ih a e k I
  |tup J=>let⟨g,n,S,@H,rfl,t,C,l,W⟩:=b;exact Md a e ⟨n,t,C,H,l⟩ ⋯
  |fn g=>cases p<;>cases aZ
  |aT g=>cases p<;>cases aZ
  |fd=>cases p<;>cases aZ
 |fn g=>cases p<;>cases m
 |aT g=>cases p<;>cases m
 |fd=>cases p<;>cases m
 |tup J=>
  cases p with
  |zero=>cases m
  |succ p=>
  let⟨g,n,S,@H,rfl,t,C,l,s⟩:=o;have P:j.heap.IsTuple g S:=⟨n,t,C,H,l⟩;cases y with
  |aV=>cases (show v=.none from b);exact Ji P ⋯
  |av h=>cases (show v=.bool h from b);exact Px h P ⋯
  |int i=>let⟨@I,rfl⟩:=b;exact OM i I P ⋯
  |str k=>let⟨@I,rfl⟩:=b;exact NQ k I P ⋯
  |fn g=>cases aZ
  |aT g=>cases aZ
  |fd=>cases aZ
  |tup Sx=>
   let⟨f,S7,q,@z,rfl,A,B,D,u⟩:=b;have Tv:j.heap.IsTuple f q:=⟨S7,A,B,z,D⟩;have aX:=s.length;have bp:=u.length;have E:S.toList.length=S.size:=by simp
   have F:q.toList.length=q.size:=by simp
   rw[E]at aX;rw[F]at bp;have r:=JZ (A:=O) (e:=λi=>cy (J.getD i .aV)<|Sx.getD i .aV) P Tv ⋯ λi G M=>by
    let⟨@Td,w,N⟩:=s.get (i:=i) (v:=S[i]) (by rw[gU];simp[G]);let⟨@Te,x,Q⟩:=u.get (i:=i) (v:=q[i]) (by rw[gU];simp[M]);rw[cN,w,cN,x];exact iz p (jK m w) (jK aZ x) (by show O.units+1+p+1<b6;lia) N Q
   rw[<-aX,<-bp,rk (J:=J) (Sx:=Sx) (λi d y g f=>by rw[cN,g,cN,f];rfl)]at r;rw[cy];exact r
@[simp] def hn:fW:=λg f=>match g,f with
 |.im d,.im y=>if (ab.bD 8 d&&ab.bD 8 y)=X then Z (.im<|.av<|!cy d y) else Y
 |.lst d,.lst y=>if (ab.du 8 d&&ab.du 8 y)=X then Z (.im<|.av<|!fS d y) else Y
 |_,_=>Y
def mv(U:b.A.units+20<b6):eW b (d9 .NotEq) hn:=by
 intro G j A m d y v L D E p u M;let⟨Td,Te,@s,h,k,c,r⟩:=M;unfold hn at c;split at c
 ·rename_i g f;split at c
  ·rename_i e;cases c;rw[cX]at e;exact Og 8 e.1 e.2 ⋯ (h.i.fh E.aY p) (k.i.fh E.aY u) b.prog b.w _ _ ⟨.av _,m,E,rfl,cb.i r rfl⟩
  ·cases c
 ·rename_i g f;split at c
  ·rename_i e;cases c;rw[cX]at e;let⟨W,q,@w,rfl,t,C,W⟩:=h;let⟨W,al,@SI,rfl,N,P,W⟩:=k;cases p;cases u;let⟨@Q,aX,R,o⟩:=oV E t C;let⟨@S,bp,T,x⟩:=oV E N P;by_cases n:g.length=f.length
   ·have:=MX (A:=b.A) (e:=λi=>cy (g.getD i .aV)<|f.getD i .aV) aX bp (by rw[cO,cO,o,x];exact n) ⋯ λi z B=>by
     let⟨@Td,F,h⟩:=R.get (i:=i) (v:=Q.toArray[i]) (by simp at z;simp[z]);let⟨@Te,H,k⟩:=T.get (i:=i) (v:=S.toArray[i]) (by simp at B;simp[B]);rw[cN,F,cN,H];exact iz 8 (jK e.1 F) (jK e.2 H) (by show b.A.units+1+8+1<b6;lia) h k
    refine this b.prog b.w _ _ ⟨.av _,m,E,rfl,?_⟩;have I:=rk (J:=g) (Sx:=f) (c:=λi=>cy (g.getD i .aV)<|f.getD i .aV) (λi d y g f=>by rw[cN,g,cN,f];rfl);rw[<-n,GV,ka,GA]at I;rw[cO,o,I];exact cb.i r rfl
   ·refine Hq (A:=b.A) aX bp (by rw[cO,cO,o,x];simpa using n) ⋯ b.prog b.w _ _ ⟨.av _,m,E,rfl,?_⟩;rw[zv n]at r;exact cb.i r rfl
  ·cases c
 ·cases c
@[simp] def rx(p:Bool):fW:=λg f=>match g,f with
 |.im d,.im .aV=>Z (.im<|.av<|p != decide (d=.aV))
 |.im (.av d),.im (.av y)=>Z (.im<|.av<|p != (d==y))
 |_,_=>Y
def QQ{s:ab}(e:cD m s v):decide (v=.aV)=decide (s=.aV):=by
 cases s with
 |aV=>cases (show v=.aV from e);rfl
 |av f=>cases (show v=.av f from e);rfl
 |int f=>cases (show v=.int f from e);rfl
 |str f=>cases (show v=.str f from e);rfl
 |fn f=>cases (show v=.ref f from e);rfl
 |tup J=>let⟨g,@w,rfl,W⟩:=e;rfl
 |aT J=>let⟨g,w,@n,rfl,W⟩:=e;rfl
 |fd=>let⟨g,@n,rfl,W⟩:=e;rfl
def J5:dV b (d9 .IsNot) (λd y m D=>∃g f,d=.av g/\y=.av f/\D (.av<|!(g==f)) m):=by
 intro G j A m d y v L D E a c e;let⟨g,@f,h,i,r⟩:=e;subst h i;cases a;cases c;refine wpAny_isNot_plain (by cases g<;>cases f<;>rfl) ⟨.av<|!(g==f),m,E,?_,r⟩;cases g<;>cases f<;>rfl
def zm:eW b (d9 .IsNot) (rx X):=by
 refine (I7.or J5).imp λd y m D h=>?_;let⟨Td,Te,@s,e,f,c,r⟩:=h;unfold rx at c;split at c
 ·rename_i g;cases c;refine .inl ⟨f.i,?_⟩;rw[QQ e.i];refine cb.i r ?_;show _=_;rw[DJ]
 ·cases c;refine .inr ⟨_,_,e.i,f.i,cb.i r ?_⟩;show _=_;rw[DJ]
 ·cases c
def d8{SS:Type}[DecidableEq SS](SF:List (SS×ab))(o:SS):Option ab:=((SF.find? λq=>decide (q.1=o)).map (·.2))
theorem oH{SS:Type}[DecidableEq SS]{m:ax}{o:SS}:∀{SF:List (SS×ab)}{i:List (SS×aj)},d_ m SF i->(∀s,d8 SF o=Z s->∃v,hW i o=Z v/\cD m s v)/\(d8 SF o=Y->hW i o=Y)
 |_,_,.nil=>⟨(λs c=>by cases c),(λ_=>rfl)⟩
 |_,_,.cons (a:=q) (b:=r) e I=>by
  let@⟨t,C⟩:=oH (o:=o) I;by_cases c:q.1=o
  ·have a:r.1=o:=e.1.symm.trans c;refine⟨λs hd=>?_,λb=>?_⟩
   ·have:∀u,d8 (q::u) o=Z q.2:=λu=>by simp[d8,jE,c]
    rw[this]at hd;cases hd;exact⟨r.2,t8 a,e.2⟩
   ·have:∀u,d8 (q::u) o=Z q.2:=λu=>by simp[d8,jE,c]
    rw[this]at b;cases b
  ·have a:¬ r.1=o:=λd=>c (e.1.trans d);have:∀u,d8 (q::u) o=d8 u o:=λu=>by simp[d8,jE,c]
   rw[this,vm a];exact⟨t,C⟩
@[simp] def bR:fW:=λg f=>match g,f with
 |.im (.tup J),.im (.int a)=>(dH J a).map .im
 |.lst J,.im (.int a)=>(dH J a).map .im
 |.cY J,.im (.int a)=>(dH J a).map .im
 |.ay SF,.im (.tup o)=>if ab.keys 7 o=X then (d8 SF o).map .im else Y
 |.dE SF,.im (.int a)=>(d8 SF<|.inl a).map .im
 |.dE SF,.im (.str a)=>(d8 SF<|.inr a).map .im
 |_,_=>Y
def L1(a:b.A.units+20<b6):iK b (λd y m D=>∃g v,d=.ref g/\gz m g y (Z v)/\D v m):=by
 intro H n G j A m d y v L D E e f ⟨g,h,c,M,r⟩ i;subst c;cases e;exact tail_any (Ov E M) PySem.F.slot_dict_getitem.lookup (RO a E M f λo p k l=>⟨h,m,k,l,r⟩) i
def yv{a:Int}{s:ab}(e:bM m J w)(c:dH J a=Z s):∃v,dH w a=Z v/\cD m s v:=by
 unfold dH at c ⊢;rw[<-e.length];let⟨@i,b,d⟩:=bS.mp c;let⟨@v,f,g⟩:=e.get d;exact⟨v,by rw[b];exact f,g⟩
def NX(z:b.A.units+20<b6):iK b (λd y m D=>∃Td Te s,e5 m Td d/\e5 m Te y/\bR Td Te=Z s/\∀v T Su,cZ m T->cC T s v Su->Su.Nodup->(∀g∈Su,m g=Y)->D v T):=by
 refine (HG.or<|O7.or<|L1 z).imp λd y m D B=>?_;let⟨Td,Te,@s,u,x,c,r⟩:=B;unfold bR at c;split at c
 ·let⟨@p,e,h⟩:=cJ.mp c;cases h;let⟨q,@w,rfl,t,C⟩:=u.i;let⟨@v,j,l⟩:=yv C e;exact .inr (.inl ⟨q,w,_,v,rfl,x.i,cu.of t,j,cb.i r l⟩)
 ·let⟨@p,e,h⟩:=cJ.mp c;cases h;let⟨W,q,@w,rfl,t,C,W⟩:=u;let⟨@v,j,l⟩:=yv C e;exact .inl ⟨q,w,_,v,rfl,x.i,dk.of t,j,cb.i r l⟩
 ·let⟨@p,e,h⟩:=cJ.mp c;cases h;let⟨W,q,w,@n,rfl,t,C,W⟩:=u;let⟨@v,j,l⟩:=yv C e;exact .inl ⟨q,w,_,v,rfl,x.i,.inl<|.inr ⟨n,t⟩,j,cb.i r l⟩
 ·rename_i SF o;split at c
  ·rename_i E;let⟨@p,e,h⟩:=cJ.mp c;cases h;let⟨W,q,@i,rfl,t,C,W⟩:=u;let⟨@v,j,l⟩:=(oH C).1 p e;let⟨f,@w,rfl,S6,S8⟩:=x.i;exact .inr (.inr ⟨q,v,rfl,by rw[<-j];exact gz.t t ⟨E,f,w,rfl,S6,S8⟩,cb.i r l⟩)
  ·cases c
 ·rename_i SF a;let⟨@p,e,h⟩:=cJ.mp c;cases h;let⟨W,q,@i,rfl,t,C,W⟩:=u;let⟨@v,j,l⟩:=(oH C).1 p e;refine .inr (.inr ⟨q,v,rfl,?_,cb.i r l⟩);rw[show y=b7 (.inl a) from x.i,<-j];exact gz.k t
 ·rename_i SF a;let⟨@p,e,h⟩:=cJ.mp c;cases h;let⟨W,q,@i,rfl,t,C,W⟩:=u;let⟨@v,j,l⟩:=(oH C).1 p e;refine .inr (.inr ⟨q,v,rfl,?_,cb.i r l⟩);rw[show y=b7 (.inr a) from x.i,<-j];exact gz.k t
 ·cases c
end
end L2
namespace dr
open Spec PyProof.Rows
section
variable{Sz:bA}{l:bk}{O:bw}{Sv:ae->ao->Prop}{j:ao}
def N8{I aQ:af}{SG:Array ae}{cf y:ae}{Q U:Option Int}{D:ae->ao->Prop}(q:o3 j.heap I SG)(a:j.heap.IsSliceOf aQ cf y .none)(bD:kq cf Q)(b:kq y U)(c:b_ SG.size 0 Q=0)(t:b_ SG.size SG.size U=SG.size)(r:D (.ref I) j):wpAny (aS Sz l) O (l9 (.ref I)<|.ref aQ) D Sv j:=by
 let⟨@P,d,e,hd⟩:=id a;have ty:j.TypeIs (.ref aQ) "slice" := ⟨P,d,e⟩;unfold l9;try with_reducible refine fB ?_
 first|refine aw (aW ?_)|skip
 refine aw (Cm q.typeIs ∅ ?_);refine aw (k6 (name:=aD.ofString "__getitem__") q.typeIs pg<|iH pg q.typeIs BN ?_<|DG _ _);show wpAny _ _ (a_.Tuple.tupleItemsOf (.ref I) >>= _) _ _ j;refine aw (B2 q ?_);refine aw (wpAny_typeOf ty ?_);rw[aJ ∅];refine aw (E4 a bD b ?_);rw[c,t];show wpAny _ _ (if (((0:Nat):Int)==0&&(1:Int)==1&&(SG.size-0)==SG.size)=X then _ else _) _ _ j;rw[aJ ↥0];refine aw (m:=a_.Tuple.tupleIsExact _) (aw<|wpAny_typeOf q.typeIs<|aW ?_);show wpAny _ _ (if (ae.type "tuple" == ae.type "tuple")=X then _ else _) _ _ j;rw[aJ ∅];exact aw (h7<|aW ⟨_,rfl,aW r⟩)
end
end dr
namespace L2
open Spec PyProof.Rows
section
variable{b:aL}
@[simp] def oc(M:aA ak):aA ak:=λB=>(M B).bind λq=>match q.1 with
 |.im (.int a)=>Z (.im<|.int<|-a,q.2)
 |_=>Y
variable{M:aA ak}{SK:Pos}
def r8{g:bu}(e:cj b g M):cj b (.UnaryOp .USub g SK) (oc M):=by
 refine ey (Q9 P2 e) λA m D c=>?_;let⟨B,N,u,@SR,z,ah,f,r⟩:=c;let⟨@⟨d,Sy⟩,t,C⟩:=bS.mp f;refine⟨B,N,d,Sy,z,ah,t,λv SD F Su h i j=>?_⟩;dsimp only at C;split at C
 ·rename_i a;cases C;exact⟨a,i.1,r _ SD F [] h ⟨rfl,rfl⟩ (by rw[cB];exact j.both)⟩
 ·cases C
def Nx(M:aA (Option Int)):cS:=(λA m D=>∃B N k SR,bE m B A N/\N.Nodup/\M B=Z (k,SR)/\∀T S3,bE T SR A S3->br m N T S3->D k T)
def sS(b:aL)(c:Option bu)(M:aA (Option Int)):Prop:=(∀ ⦃q⦄,BL b c (Nx M) q)
def Bc{c:Option bu}{I S5:cS}(e:oh b c I)(a:∀A m D,S5 A m D->I A m D):oh b c S5:=λG j A m D E d=>e G j A m D E (a A m D d)
def jc:aA (Option Int):=(λB=>Z (Y,B))
@[simp] def iJ(M:aA ak):aA (Option Int):=λB=>(M B).bind λq=>match q.1 with
 |.im (.int a)=>Z (Z a,q.2)
 |_=>Y
def rM:sS b Y jc:=by
 refine Bc N1 λA m D a=>?_;let⟨B,N,u,@SR,z,ah,c,r⟩:=a;cases c;exact r m N z (br.perm ah<|List.Perm.refl _)
variable{c:bu}
def m4(e:cj b c M):sS b (Z c) (iJ M):=by
 refine Bc (Kc e) λA m D f=>?_;let⟨B,N,u,@SR,z,ah,g,r⟩:=f;let⟨@⟨d,Sy⟩,t,C⟩:=bS.mp g;refine⟨B,N,d,Sy,z,ah,t,λv SD F Su h i j=>?_⟩;dsimp only at C;split at C
 ·rename_i a;cases C;exact⟨a,i.1,r SD F h j.both⟩
 ·cases C
def gy{SU:Type}(w:List SU)(Q U:Option Int):List SU:=((w.drop<|dr.b_ w.length 0 Q).take (dr.b_ w.length w.length U-dr.b_ w.length 0 Q))
variable{m:ax}
theorem bM.drop:∀{J:List ab}{w:List aj} (p:Nat),bM m J w->bM m (J.drop p) (w.drop p)
 |J,w,0,e=>e
 |[],w,p+1,e=>by cases (show w=[] from e);exact rfl
 |s::J,w,p+1,e=>by
  let⟨v,@u,rfl,t,C⟩:=e;exact C.drop p
theorem bM.take:∀{J:List ab}{w:List aj} (p:Nat),bM m J w->bM m (J.take p) (w.take p)
 |J,w,0,e=>rfl
 |[],w,p+1,e=>by cases (show w=[] from e);exact rfl
 |s::J,w,p+1,e=>by
  let⟨v,@u,rfl,t,C⟩:=e;exact⟨v,_,rfl,t,C.take p⟩
def bM.cut{J:List ab}{w:List aj}(Q U:Option Int)(e:bM m J w):bM m (gy J Q U) (mJ w Q U):=by
 unfold gy mJ;rw[e.length];exact (e.drop _).take _
@[simp] def oR(s:ak)(Q U:Option Int):Option ak:=match s with
 |.im (.tup J)=>Z (.im<|.tup<|gy J Q U)
 |.lst J=>Z (.lst<|gy J Q U)
 |.cY J=>Z (.lst<|gy J Q U)
 |_=>Y
def Jc(So:Φ):aj->Option Int->Option Int->ax->cI->Prop:=(λd Q U m D=>∃g w,d=.ref g/\cu So m g w/\dr.b_ w.length 0 Q=0/\dr.b_ w.length w.length U=w.length/\D (.ref g) m)
def LJ:qt b (λd Q U m D=>∃s u,e5 m s d/\oR s Q U=Z u/\cb m u D):=by
 have all:qt b (Jc b.K):=by
  intro G j A m d v cf y Q U aQ D E f h bD o e;let⟨g,@w,rfl,L,M,t,r⟩:=e;cases f;let⟨@SG,u,F,O⟩:=E.tuple L;have H:SG.toArray.size=w.length:=by rw[cO];exact u.length.symm
  exact⟨"tuple",_,pg.lookup,F.typeIs,dr.N8 F h bD o (by rw[H];exact M) (by rw[H];exact t) ⟨.ref g,m,E,rfl,r⟩⟩
 intro G j A m d v cf y Q U aQ D E f h bD o N;let⟨s,@u,B,c,r⟩:=N;unfold oR at c;split at c
 ·rename_i J;cases c;let⟨q,@w,rfl,t,C⟩:=B.i;by_cases x:dr.b_ w.length 0 Q=0/\dr.b_ w.length w.length U=w.length
  ·refine all G j A m _ v cf y Q U aQ D E f h bD o ⟨q,w,rfl,cu.of t,x.1,x.2,cb.i r ⟨q,w,rfl,t,?_⟩⟩;have:gy J Q U=J:=by
    unfold gy;rw[C.length,x.1,x.2,lu,D_,<-C.length,ru]
   rw[this];exact C
  ·exact LS G j A m _ v cf y Q U aQ D E f h bD o ⟨q,w,rfl,cu.of t,x,λp z=>cb.t r z<|C.cut Q U⟩
 ·cases c;let⟨W,q,@w,rfl,t,C,W⟩:=B;exact D7 G j A m _ v cf y Q U aQ D E f h bD o ⟨q,w,rfl,dk.of t,λp z=>cb.l r z<|C.cut Q U⟩
 ·cases c;let⟨W,q,w,@n,rfl,t,C,W⟩:=B;exact D7 G j A m _ v cf y Q U aQ D E f h bD o ⟨q,w,rfl,.inl<|.inr ⟨n,t⟩,λp z=>cb.l r z<|C.cut Q U⟩
 ·cases c
@[simp] def iy(M:aA bP)(k e:aA (Option Int)):aA ak:=λB=>(M B).bind λq=>(k q.2).bind λr=>(e r.2).bind λu=>(dW u.2 q.1).bind λs=>(oR s r.1 u.1).map λa=>(a,u.2)
def pT{Q U:Option bu}{M:aA bP}{j o:aA (Option Int)}{Tj:Pos}(q:dI b c M)(w:sS b Q j)(x:sS b U o):cj b (.Subscript c (.Slice Q U Y Tj) SK) (iy M j o):=by
 refine ey (PF LJ q w x) λA m D y=>?_;let⟨B,N,u,@SR,z,ah,G,r⟩:=y;let⟨@⟨d,Sy⟩,t,C⟩:=bS.mp G;let⟨@⟨k,S2⟩,H,I⟩:=bS.mp C;let⟨@⟨L,Tq⟩,J,O⟩:=bS.mp I;let⟨@s,P,R⟩:=bS.mp O;let⟨@bs,S,T⟩:=cJ.mp R;cases T;refine⟨B,N,d,Sy,z,ah,t,λv SD F Su al E a=>⟨Sy,F,k,S2,al,(df.mp a.ah).1,H,λSP SW am p=>⟨S2,SW,L,Tq,am,p.ah,J,λan ap f as=>?_⟩⟩⟩;have h:=p.seq as;have Tf:iw an A d v Su:=E.mono h.tup λg a1 n c=>h.keep g n c λe=>(df.mp a.ah).2.2 g e g a1 rfl;have a2:=a.trans h E.chg;exact⟨s,_,Tf.read f P,S,λl bd be i bi bm bn=>r l bd ap be (f.mono i.tupS λg W n c=>i g n c) bi<|a2.new i bm bn f.chg⟩
abbrev h2:=List ak->Option ak
@[simp] def dd:h2:=λJ=>match J with
 |[.im (.tup d)]=>Z (.im<|.int d.length)
 |[.lst d]=>Z (.im<|.int d.length)
 |[.cY d]=>Z (.im<|.int d.length)
 |[.hZ d]=>Z (.im<|.int d.length)
 |[.dE d]=>Z (.im<|.int d.length)
 |[.im (.str d)]=>if d.length<=100000 then Z (.im<|.int d.length) else Y
 |_=>Y
variable{Sp:List aj}
def gi{s:ak}(e:mO m [s] Sp):∃v,Sp=[v]/\e5 m s v:=by
 let⟨v,@u,rfl,t,C⟩:=e;cases (show u=[] from C);exact⟨v,rfl,t⟩
def Ex{s c:ak}(e:mO m [s,c] Sp):∃v L,Sp=[v,L]/\e5 m s v/\e5 m c L:=by
 let⟨v,@u,rfl,t,C⟩:=e;let⟨@L,rfl,a⟩:=gi C;exact⟨v,L,rfl,t,a⟩
def d_.length{SS:Type}{k:List (SS×ab)}{H:List (SS×aj)}(e:d_ m k H):k.length=H.length:=eg.length e
def fE:hu b (.builtin "len") dd:=by
 refine (H8.or<|M1.or Hs).imp λw m D f=>?_;let⟨J,@s,d,c,r⟩:=f;unfold dd at c;split at c
 ·cases c;let⟨@v,rfl,e⟩:=gi d;let⟨q,@w,rfl,t,C⟩:=e.i;exact .inl ⟨q,w,rfl,.inr<|cu.of t,by rw[<-C.length];exact cb.i r rfl⟩
 ·cases c;let⟨@v,rfl,⟨W,q,@w,rfl,t,C,W⟩⟩:=gi d;exact .inl ⟨q,w,rfl,.inl<|dk.of t,by rw[<-C.length];exact cb.i r rfl⟩
 ·cases c;let⟨@v,rfl,⟨W,q,w,@n,rfl,t,C,W⟩⟩:=gi d;exact .inl ⟨q,w,rfl,.inl<|.inl<|.inr ⟨n,t⟩,by rw[<-C.length];exact cb.i r rfl⟩
 ·cases c;let⟨@v,rfl,⟨W,q,w,@Ss,rfl,t,C,W⟩⟩:=gi d;exact .inl ⟨q,w,rfl,.inl<|dk.of t,by rw[<-C.length];exact cb.i r rfl⟩
 ·cases c;let⟨@v,rfl,⟨W,q,@i,rfl,t,C,W⟩⟩:=gi d;exact .inr (.inr ⟨q,i,rfl,t,by rw[<-C.length];exact cb.i r rfl⟩)
 ·split at c
  ·rename_i g;cases c;let⟨@v,rfl,e⟩:=gi d;cases (show v=_ from e.i);exact .inr (.inl ⟨_,rfl,l6 g,cb.i r rfl⟩)
  ·cases c
 ·cases c
@[simp] def gY:h2:=λJ=>match J with
 |[s]=>(kj s).map λd=>.im (.tup d)
 |_=>Y
def jU:hu b (.type "tuple") gY:=by
 refine QT.imp λw m D h=>?_;let⟨J,@s,j,c,r⟩:=h;unfold gY at c;split at c
 ·let⟨@d,f,l⟩:=cJ.mp c;cases l;let⟨@v,rfl,e⟩:=gi j;unfold kj at f;split at f
  ·cases f;let⟨q,@w,rfl,t,C⟩:=e.i;exact⟨q,w,rfl,.inr ⟨cu.of t,cb.i r ⟨q,w,rfl,t,C⟩⟩⟩
  ·cases f;let⟨W,q,@w,rfl,t,C,W⟩:=e;exact⟨q,w,rfl,.inl ⟨dk.of t,λk g=>cb.t r g C⟩⟩
  ·cases f;let⟨W,q,w,@n,rfl,t,C,W⟩:=e;exact⟨q,w,rfl,.inl ⟨.inl<|.inr ⟨n,t⟩,λk g=>cb.t r g C⟩⟩
  ·cases f
 ·cases c
@[simp] def vInt:h2:=λJ=>match J with
 |[.im (.int a)]=>Z (.im<|.int a)
 |[.im (.av f)]=>Z (.im<|.int<|if f then 1 else 0)
 |_=>Y
def LQ:hu b (.type "int") vInt:=by
 refine Mu.imp λw m D f=>?_;let⟨J,@s,d,c,r⟩:=f;unfold vInt at c;split at c
 ·cases c;let⟨@v,rfl,e⟩:=gi d;cases (show v=_ from e.i);exact .inl ⟨_,rfl,cb.i r rfl⟩
 ·cases c;let⟨@v,rfl,e⟩:=gi d;cases (show v=_ from e.i);exact .inr ⟨_,rfl,cb.i r rfl⟩
 ·cases c
@[simp] def xg:h2:=λJ=>match J with
 |[.im (.int a),.im<|.int i]=>Z (.im<|.int<|if i>a then i else a)
 |_=>Y
@[simp] def yh:h2:=λJ=>match J with
 |[.im (.int a),.im<|.int i]=>Z (.im<|.int<|if i<a then i else a)
 |_=>Y
def Ou(d:b.calm=X):hu b (.builtin "max") xg:=by
 refine (Jq d).imp λw m D f=>?_;let⟨J,@s,g,c,r⟩:=f;unfold xg at c;split at c
 ·cases c;let⟨v,@L,rfl,e,o⟩:=Ex g;cases (show v=_ from e.i);cases (show L=_ from o.i);exact⟨_,_,rfl,cb.i r rfl⟩
 ·cases c
def NG(d:b.calm=X):hu b (.builtin "min") yh:=by
 refine (O0 d).imp λw m D f=>?_;let⟨J,@s,g,c,r⟩:=f;unfold yh at c;split at c
 ·cases c;let⟨v,@L,rfl,e,o⟩:=Ex g;cases (show v=_ from e.i);cases (show L=_ from o.i);exact⟨_,_,rfl,cb.i r rfl⟩
 ·cases c
@[simp] def k9:List ab->Option (List Bool)
 |[]=>Z []
 |.av f::J=>(k9 J).map λu=>f::u
 |_::_=>Y
theorem zx{m:ax}:∀{J:List ab}{w:List aj}{bs:List Bool},bM m J w->k9 J=Z bs->w=bs.map aj.av
 |[],w,bs,e,c=>by cases c;exact e
 |.av f::J,w,bs,e,c=>by
  let⟨v,@u,rfl,t,C⟩:=e;rw[k9]at c;let⟨@q,a,b⟩:=cJ.mp c;cases b;cases (show v=.av f from t);rw[zx C a];rfl
 |.aV::_,_,_,_,c=>by cases c
 |.int _::_,_,_,_,c=>by cases c
 |.str _::_,_,_,_,c=>by cases c
 |.tup _::_,_,_,_,c=>by cases c
 |.fn _::_,_,_,_,c=>by cases c
 |.aT _::_,_,_,_,c=>by cases c
 |.fd::_,_,_,_,c=>by cases c
@[simp] def hr:h2:=λJ=>match J with
 |[.lst d]=>(k9 d).map λbs=>.im (.av<|bs.all id)
 |_=>Y
@[simp] def u_:h2:=λJ=>match J with
 |[.lst d]=>(k9 d).map λbs=>.im (.av<|bs.any id)
 |_=>Y
def jg(e:b.calm=X):hu b (.builtin "all") hr:=by
 refine (Mj e).imp λw m D f=>?_;let⟨J,@s,g,c,r⟩:=f;unfold hr at c;split at c
 ·let⟨@d,h,j⟩:=cJ.mp c;cases j;let⟨@v,rfl,⟨W,q,@w,rfl,t,C,W⟩⟩:=gi g;rw[zx C h]at t;exact⟨q,d,rfl,t,cb.i r rfl⟩
 ·cases c
end
section
variable{b:aL}
def Hf(i:b.calm=X):eA b (.builtin "any") (λw m D=>∃k bs,w=[.ref k]/\m k=Z (.lst<|List.map aj.av bs)/\D (.av<|bs.any id) m):=by
 intro G j A m w SO D E u e;let⟨k,@bs,rfl,l,r⟩:=e;let⟨@L,rfl,n⟩:=ir u;cases n;let@⟨z,⟨SG,@p,d,c⟩⟩:=E.aY k _ l;have g:j.heap.IsList k SG.toArray:=⟨_,c,rfl,p,rfl⟩;refine call_any_walk (rS g ⟨j.heap.objs.size,[j.heap.objs.size,k],[j.heap.objs.size],SG.toArray.size,_,_,λa=>(bs[a]?).getD ar,rfl,mn.list (A:=b.A.in1) (E.ok.hd i) _ k (dU<|cn c) SG.toArray,
  ⟨⟨_,dx _ rfl,rfl,rfl⟩,g.push _⟩,λa v Sr x y o h=>?_,λSq Tb q=>?_⟩)
 ·let⟨@f,s,rfl⟩:=F3 d a v ⇑o;simp only[s,uz]at h;exact ky h
 ·have t:SG.toArray.size=bs.length:=by
   have:=d.length;rw[a9]at this;rw[cO,this]
  rw[t,LSm.range_any];exact⟨.av _,m,E.kept<|FX q,rfl,r⟩
def Lb(e:b.calm=X):hu b (.builtin "any") u_:=by
 refine (Hf e).imp λw m D f=>?_;let⟨J,@s,g,c,r⟩:=f;unfold u_ at c;split at c
 ·let⟨@d,h,j⟩:=cJ.mp c;cases j;let⟨@v,rfl,⟨W,q,@w,rfl,t,C,W⟩⟩:=gi g;rw[zx C h]at t;exact⟨q,d,rfl,t,cb.i r rfl⟩
 ·cases c
def yy:ak->Option Nat
 |.im (.int _)=>Z 0
 |.im (.av _)=>Z 1
 |.im (.str _)=>Z 2
 |.im (.tup _)=>Z 3
 |.im .aV=>Z 4
 |.lst _=>Z 4
 |.im (.aT _)=>Z 4
 |.im .fd=>Z 4
 |.ay _=>Z 4
 |.dE _=>Z 4
 |_=>Y
@[simp] def xi(S:String)(s:ak):Option Bool:=
 (yy s).bind λo=>if S = "int" then Z (o==0 || o==1) else if S = "bool" then Z (o==1) else if S = "str" then Z (o==2) else if S = "tuple" then Z (o==3) else Y
variable{S:String}{f:Bool}
def IF{s:ak}(e:xi S s=Z f):∃o,yy s=Z o/\((S = "int" /\ f=(o==0 || o==1))\/(S = "bool" /\ f=(o==1))\/(S = "str" /\ f=(o==2))\/(S = "tuple" /\ f=(o==3))):=by
 let⟨@o,c,e⟩:=bS.mp e;refine⟨o,c,?_⟩;by_cases t:S = "int"
 ·rw[aJ t]at e;cases e;exact .inl ⟨t,rfl⟩
 rw[aM t]at e;by_cases C:S = "bool"
 ·rw[aJ C]at e;cases e;exact .inr (.inl ⟨C,rfl⟩)
 rw[aM C]at e;by_cases a:S = "str"
 ·rw[aJ a]at e;cases e;exact .inr (.inr<|.inl ⟨a,rfl⟩)
 rw[aM a]at e;by_cases b:S = "tuple"
 ·rw[aJ b]at e;cases e;exact .inr (.inr<|.inr ⟨b,rfl⟩)
 rw[aM b]at e;cases e
def m1{O SN aO B R:Prop}(e:O\/SN\/aO\/B)(g:O->R)(f:SN->R)(h:aO->R)(s:B->R):R:=e.elim g λe=>e.elim f λe=>e.elim h s
variable{G:List (af×bj)}{m:ax}{j:ao}
def Al{A:a3}(E:aH b G A m j){g:af}(e:(∃o,m g=Z (.ay o))\/∃o,m g=Z (.dE o)):∃n,j.heap.get? g=Z n/\n.cls=.type "dict" := by
 rcases e with ⟨o,e⟩|⟨o,e⟩
 ·let@⟨_,_,⟨@w,_,⟨n,Sx,@Tg,t,C,_⟩⟩⟩:=(show e7 b.prog b.w m j.heap g (.ay o) from E.aY g _ e);exact⟨n,t,C.1⟩
 ·let@⟨_,_,⟨@Sp,_,⟨n,Sx,@Tg,t,C,_⟩⟩⟩:=(show e7 b.prog b.w m j.heap g (.dE o) from E.aY g _ e);exact⟨n,t,C.1⟩
def OT{A:a3}(E:aH b G A m j){g:af}{q:bj}(e:m g=Z (.ec q<|.ay [])):∃n,j.heap.get? g=Z n/\n.cls=.type "dict" := by
 let@⟨_,_,_,⟨@w,_,⟨n,Sx,@Tg,t,C,_⟩⟩⟩:=(show e7 b.prog b.w m j.heap g (.ec q<|.ay []) from E.aY g _ e);exact⟨n,t,C.1⟩
def Ly:eA b (.builtin "isinstance") (λw m D=>∃d S s f,w=[d,.ty S]/\e5 m s d/\xi S s=Z f/\D (.av f) m):=by
 intro G j A m w SO D E u e;let⟨d,S,s,@f,rfl,k,U,r⟩:=e;have ha:=u;cases u with
 |cons u B=>
  cases B with
  |cons Ti B=>
   cases B;cases Ti;have p:∀{f:Bool},D (.av f) m->eO b G A D (.bool f) {j with toks:=j.toks+1}:=λ{f} r=>⟨.av f,m,E.tok _,rfl,r⟩;let⟨@o,h,v⟩:=IF U;have q:f=ar->D (.av ar) m:=λc=>c ▸ r;have F:∀{g:af},o=4->(∃n,j.heap.get? g=Z n/\n.cls=.type "dict")->wpAny (aS b.prog b.w) b.A (call (.builtin "isinstance") [.ref g,.type S]) (eO b G A D) b.cU j:=by
    rintro g rfl ⟨n,y,z⟩;refine m1 v (λ⟨c,x⟩=>c ▸ IsiPair.dict_int y z (p<|q x)) (λ⟨c,x⟩=>c ▸ IsiPair.dict_bool y z (p<|q x)) (λ⟨c,x⟩=>c ▸ IsiPair.dict_str y z (p<|q x)) λH=>?_;let@⟨c,x⟩:=H;exact c ▸ IsiPair.dict_tuple y z (p<|q x)
   have kD:GF b.K m d S f->wpAny (aS b.prog b.w) b.A (call (.builtin "isinstance") [_,.type S]) (eO b G A D) b.cU j:=λJ=>Lr G j A m _ _ D E ha ⟨d,S,f,rfl,J,r⟩;have I:∀{g:af}{w:List aj},o=4->d=.ref g->dk b.K m g w->wpAny (aS b.prog b.w) b.A (call (.builtin "isinstance") [_,.type S]) (eO b G A D) b.cU j:=λ{g w} h c L=>by
    subst h;exact kD (.inr<|.inr<|.inr<|.inr ⟨g,w,c,L,m1 v (λe=>.inr<|.inl e) (λe=>.inr<|.inr<|.inr<|.inl e) (λe=>.inr<|.inr<|.inl e) λe=>.inr<|.inr<|.inr<|.inr e⟩)
   unfold yy at h;split at h
   ·cases h;exact kD (.inl ⟨_,k.i,m1 v .inl (λe=>.inr<|.inr<|.inr<|.inl e) (λe=>.inr<|.inr<|.inl e) λe=>.inr<|.inl e⟩)
   ·cases h;exact kD (.inr<|.inl ⟨_,k.i,m1 v (λe=>.inr<|.inl e) .inl (λe=>.inr<|.inr<|.inr<|.inl e) λe=>.inr<|.inr<|.inl e⟩)
   ·cases h;exact kD (.inr<|.inr<|.inl ⟨_,k.i,m1 v (λe=>.inr<|.inl e) (λe=>.inr<|.inr<|.inr<|.inl e) .inl λe=>.inr<|.inr<|.inl e⟩)
   ·cases h;let⟨g,@w,c,t,C⟩:=k.i;exact kD (.inr<|.inr<|.inr<|.inl ⟨g,w,c,cu.of t,m1 v (λe=>.inr<|.inl e) (λe=>.inr<|.inr<|.inr<|.inl e) (λe=>.inr<|.inr<|.inl e) .inl⟩)
   ·cases h;cases (show d=.aV from k.i);cases u;refine m1 v (λ⟨c,x⟩=>c ▸ IsiPair.NoneType_int (p<|q x)) (λ⟨c,x⟩=>c ▸ IsiPair.NoneType_bool (p<|q x)) (λ⟨c,x⟩=>c ▸ IsiPair.NoneType_str (p<|q x)) λH=>?_;let@⟨c,x⟩:=H;exact c ▸ IsiPair.NoneType_tuple (p<|q x)
   ·cases h;let⟨W,g,@w,c,t,C,W⟩:=k;exact I rfl c (dk.of t)
   ·cases h;let⟨g,w,@n,c,t,C⟩:=k.i;exact I rfl c (.inl<|.inr ⟨n,t⟩)
   ·cases h;let⟨g,@n,rfl,t⟩:=k.i;cases u;exact F rfl (OT E t)
   ·cases h;let⟨W,g,@w,rfl,t,C,W⟩:=k;cases u;exact F rfl (Al E<|.inl ⟨_,t⟩)
   ·cases h;let⟨W,g,@w,rfl,t,C,W⟩:=k;cases u;exact F rfl (Al E<|.inr ⟨_,t⟩)
   ·cases h
@[simp] def k5(S:String)(M:aA bP):aA ak:=λB=>(M B).bind λq=>(dW q.2 q.1).bind λs=>(xi S s).map λf=>(.im<|.av f,q.2)
variable{d:aD}{c:bu}{M:aA bP}{SK:Pos}
def l8{q Tj:Pos}(h:eS b "isinstance")(i:b.az "isinstance" = Y)(j:e8 "isinstance" = Z (.builtin "isinstance"))(k:eS b d)(l:b.az d=Y)(o:e8 d=Z (.type S))(e:dI b c M)(p:d ≠ "__name__" := by decide)(hd:(d==("__debug__" : aD))=ar:=by decide)(a:bV [c,.Name d Tj] b.env=(ar,ck c b.env)::bV [.Name d Tj] b.env:=by rfl)(w:bV [.Name d Tj] b.env=(ar,ck (.Name d Tj) b.env)::bV [] b.env:=by rfl)(x:(f6 SK<|bV [.Name d Tj] b.env).any (·.1)=ar:=by rfl):cj b (.Call (.Name "isinstance" q) [c,.Name d Tj] [] SK) (k5 S M):=by
 refine ey (FE Ly h i j (wm e (wm (NM (v:=.ty S) k l o rfl p hd) DR w) a) ∅ ∅ a x) λA m D y=>?_;let⟨B,N,u,@SR,z,ah,G,r⟩:=y;let⟨@⟨n,Sy⟩,t,C⟩:=bS.mp G;let⟨@s,H,I⟩:=bS.mp C;let⟨@f,J,L⟩:=cJ.mp I;cases L;exact⟨B,N,n,Sy,z,ah,t,λv SD F Su g E O=>⟨v,S,s,f,rfl,E.read g H,J,r _ SD F [] g ⟨rfl,rfl⟩ (by rw[cB];exact O.both)⟩⟩
@[simp] def pH:ak->Option Bool
 |.im .aV=>Z ar
 |.im (.av f)=>Z f
 |.im (.int a)=>Z (a != 0)
 |.im (.str d)=>if d.length<=100000 then Z ((d.length:Int) != 0) else Y
 |.im (.tup J)=>Z (!J.isEmpty)
 |.lst J=>Z (!J.isEmpty)
 |.cY J=>Z (!J.isEmpty)
 |.dE SF=>Z (!SF.isEmpty)
 |_=>Y
def bM.emp{J:List ab}{w:List aj}(e:bM m J w):(!w.isEmpty)=!J.isEmpty:=by
 cases J with
 |nil=>cases (show w=[] from e);rfl
 |cons s J=>let⟨v,@u,rfl,W⟩:=e;rfl
def LR{s:ak}{v:aj}(e:e5 m s v)(c:pH s=Z f):v8 b.K v m f:=by
 unfold pH at c;split at c
 ·cases c;cases (show v=_ from e.i);rfl
 ·cases c;cases (show v=_ from e.i);rfl
 ·cases c;cases (show v=_ from e.i);rfl
 ·split at c
  ·rename_i d;cases c;cases (show v=_ from e.i);exact⟨l6 d,rfl⟩
  ·cases c
 ·cases c;let⟨q,@w,rfl,t,C⟩:=e.i;exact .inr (.inl ⟨w,cu.of t,C.emp.symm⟩)
 ·cases c;let⟨W,q,@w,rfl,t,C,W⟩:=e;exact .inl ⟨w,dk.of t,C.emp.symm⟩
 ·cases c;let⟨W,q,w,@n,rfl,t,C,W⟩:=e;exact .inl ⟨w,.inl<|.inr ⟨n,t⟩,C.emp.symm⟩
 ·cases c;let⟨W,q,@i,rfl,t,C,W⟩:=e;refine .inr (.inr ⟨i,t,?_⟩);cases C<;>rfl
 ·cases c
@[simp] def eP(M:aA bP):aA Bool:=λB=>(M B).bind λq=>(dW q.2 q.1).bind λs=>(pH s).map λf=>(f,q.2)
def f_(e:dI b c M)(g:∀a,om c b.env a=(do let v <-a;standAt c.pos;holding [v] (truthy v)):=by intro W;rfl):ix b c (eP M):=by
 refine vi (N9 e g) λA m D h=>?_;let⟨B,N,f,@SR,z,ah,i,r⟩:=h;let⟨@⟨n,Sy⟩,t,C⟩:=bS.mp i;let⟨@s,j,k⟩:=bS.mp C;let⟨@q,l,o⟩:=cJ.mp k;cases o;exact⟨B,N,n,Sy,z,ah,t,λv SD F Su d E p=>⟨_,LR (E.read d j) l,r SD F d p.both⟩⟩
variable{I:iu}
def C5{a:Int}(c:eS b d)(e:b.az d=Z (.int a I))(hd:(d==("__debug__" : aD))=ar:=by decide):cj b (.Name d SK) (aE<|.int a):=oD (w3 (v:=.int a) c e ⟨I,rfl⟩ hd) λ_=>rfl
def jO{a:aD}(c:eS b d)(e:b.az d=Z (.str a I))(hd:(d==("__debug__" : aD))=ar:=by decide):cj b (.Name d SK) (aE<|.str a):=oD (w3 (v:=.str a) c e ⟨I,rfl⟩ hd) λ_=>rfl
def y2{x:af}(a:eS b d)(c:b.az d=Z (.ref x))(hd:(d==("__debug__" : aD))=ar:=by decide):cj b (.Name d SK) (aE<|.fn x):=oD (w3 (v:=.ref x) a c rfl hd) λ_=>rfl
end
variable{k Q:Pos}{n:bu}{id S:String}{name:aD}{M:aA (List bP)}{a:Nat}{ty:ak->Bool}{So:Φ}{S7:gm}{g:af}{m:ax}
def br.chg{N F:List af}(b:g∈N)(h:gd m g)(ah:F.Nodup)(cv:∀d∈F,d∈N):br m N (upd m g S7) F:=by
 let⟨@n,c,e,f⟩:=h;refine⟨λd L Th a=>?_,λd a=>.inl<|cv d a,ah,gc.of (λd w Th=>?_)<|λd q L Th=>?_,λd L Th=>?_⟩
 ·rw[c2 (λi=>a (by rw[i];exact b))];exact Th
 ·rw[c2]
  ·exact Th
  ·rintro rfl;rw[c]at Th;exact e w (Option.some.inj Th)
 ·rw[c2]
  ·exact Th
  ·rintro rfl;rw[c]at Th;exact f q L (Option.some.inj Th)
 ·by_cases a:d=g
  ·subst a;exact⟨S7,eT⟩
  ·exact⟨L,(c2 a).trans Th⟩
theorem cD.kl(h:gd m g):oE m (upd m g S7):=(br.chg (N:=[g]) (F:=[]) (.head _) h jb<|λd a=>nomatch a).tup.tup
def n6(b:aL)(id:String)(aU:ak->List ak->Option (ak×ak)):Prop:=(
 uS b id λd Sp m D=>∃h J u a Su SM,cC m h d Su/\ef m J Sp SM/\(Su++SM).Nodup/\aU h J=Z (u,a)/\∀v T c b0,cC T u v c->cC T a d b0->br m (Su++SM) T (c++b0)->D v T)
@[simp] def hj:ak->Bool
 |.lst _=>X
 |.hZ _=>X
 |_=>ar
@[simp] def A3:ak->Bool
 |.dE _=>X
 |.ay _=>X
 |_=>ar
@[simp] def gw(ty:ak->Bool)(a:Nat)(aU:ak->List ak->Option (ak×ak))(M:aA (List bP)):aA ak:=λB=>match B[a]? with
 |some (Z b)=>if ty b=X then (M B).bind λq=>(fm q.1 q.2).bind λr=>match r.2[a]? with
   |some (Z h)=>(aU h r.1).map λu=>(u.1,r.2.set a<|Z u.2)
   |_=>Y
  else Y
 |_=>Y
def zQ{aU:ak->List ak->Option (ak×ak)}{A:a3}{D:cI}(G:∀m h d Su,cC m h d Su->ty h=X->lB So S d m)(e:fz (gw ty a aU M) A m D):∃d,A[a]?=Z (Z d)/\lB So S d m/\gS M A m λSp SP=>∃h J u f Su SM,cC SP h d Su/\ef SP J Sp SM/\(Su++SM).Nodup/\aU h J=Z (u,f)/\∀v T j b0,cC T u v j->cC T f d b0->br SP (Su++SM) T (j++b0)->D v T:=by
 let⟨B,N,u,@SR,z,ah,b,r⟩:=e;unfold gw at b;split at b
 ·rename_i H I;split at b
  ·rename_i L;let⟨d,bs,@bv,k,Q,W,W⟩:=z.out I;refine⟨d,k,G m H d _ Q L,?_⟩;let⟨@⟨P,Sy⟩,t,C⟩:=bS.mp b;let⟨@⟨J,S2⟩,R,i⟩:=bS.mp C;refine⟨B,N,P,Sy,z,ah,t,λSp SD F j U E al=>?_⟩;let⟨SW,@SM,am,an,S4⟩:=o2 U E R;dsimp only at i;split at i
   ·rename_i h ap;let⟨@⟨Ti,f⟩,as,a1⟩:=cJ.mp i;cases a1;let⟨ca,Su,@o,p,a2,q,bd⟩:=am.out ap;rw[k]at p;cases p;have s:br m N SD ((Su++SM)++o):=al.k0 (S4.symm.trans ((fq SM bd.symm).trans (by
     rw[bC];exact dC)))
    have w:=df.mp s.ah;refine⟨h,J,_,f,Su,SM,a2,an,w.1,as,λv T O SN be iQ l=>?_⟩;have bi:bE T (S2.set a<|Z .dB) A o:=q.mono l.tup λg bm n c=>l.keep g n c λe=>w.2.2 g e g bm rfl;let⟨x,@Ss,y,bn⟩:=bi.back iQ k;rw[w4]at y;refine r v T x O y be ((s.trans l q.chg).less (aO:=Ss) ?_);rw[bC];refine (ee x dC).trans ?_;rw[<-bC];refine (fq O bn).trans ?_;rw[bC];refine dC.trans ?_;rw[bC];refine dC.trans ?_;rw[bC,bC];refine (ee O ?_);exact dC
   ·cases i
  ·cases b
 ·cases b
section
variable{b:aL}
def jP:∀(m:ax) (h:ak) (d:aj) (Su:List af),cC m h d Su->hj h=X->lB So "list" d m:=by
 intro m h d Su e c;cases h with
 |lst J=>let⟨g,@w,rfl,t,W⟩:=e;exact .inl ⟨rfl,w,dk.of t⟩
 |hZ J=>let⟨g,w,@Ss,rfl,t,W⟩:=e;exact .inl ⟨rfl,w,dk.of t⟩
 |_=>cases c
def OI:∀(m:ax) (h:ak) (d:aj) (Su:List af),cC m h d Su->A3 h=X->lB So "dict" d m:=by
 intro m h d Su e c;cases h with
 |dE J=>let⟨g,@w,rfl,t,W⟩:=e;exact .inr (.inr<|.inl ⟨rfl,.inl ⟨w,t⟩⟩)
 |ay J=>let⟨g,@w,rfl,t,W⟩:=e;exact .inr (.inr<|.inl ⟨rfl,.inr ⟨w,t⟩⟩)
 |_=>cases c
def kV{aU:ak->List ak->Option (ak×ak)}{c:bu}{Sx:List bu}(f:∀m h d Su,cC m h d Su->ty h=X->lB b.K S d m)(bU:tr S)(g:Slot S name id)(i:sa (.builtin id)=pure (.type "method_descriptor"))(j:n6 b id aU)(l:bN b n (ly a))(o:fM b (c::Sx) M)(p:vj n name b.env (ck n b.env)=ck n b.env:=by rfl)(q:((f6 k<|bV (c::Sx) b.env).all (λd=>!d.1)&&(backToKw k<|keywordEach [] b.env).all (λd=>d.1.isSome)
   && decide ((c::Sx).length+([]:List sd).length+(if ([]:List sd).isEmpty then 0 else 1)<30))=X:=by rfl)(r:(Q.endLine==k.line)=X:=by rfl)(s:bV (c::Sx) b.env=(ar,ck c b.env)::bV Sx b.env:=by rfl)(u:(f6 k<|bV Sx b.env).any (·.1)=ar:=by rfl):
  cj b (.Call (.Attribute n name Q) (c::Sx) [] k) (gw ty a aU M):=
 ey (QE bU g i j l o p q r s u) λA m D e=>by
  let⟨@d,v,t,C⟩:=zQ f e;exact⟨d,v,t,C⟩
def CQ{aU:ak->List ak->Option (ak×ak)}(c:∀m h d Su,cC m h d Su->ty h=X->lB b.K S d m)(bU:tr S)(f:Slot S name id)(g:sa (.builtin id)=pure (.type "method_descriptor"))(i:n6 b id aU)(j:bN b n (ly a))(l:vj n name b.env (ck n b.env)=ck n b.env:=by rfl)(o:(Q.endLine==k.line)=X:=by rfl):
  cj b (.Call (.Attribute n name Q) [] [] k) (gw ty a aU aB):=
 ey (PV bU f g i j l o) λA m D e=>by
  let⟨@d,p,t,C⟩:=zQ c e;refine⟨d,p,t,?_⟩;let⟨B,N,u,@SR,z,ah,q,r⟩:=C;cases q;exact r [] m N [] z ⟨rfl,rfl⟩ (by rw[cB];exact br.perm ah (List.Perm.refl _))
@[simp] def kP:ak->List ak->Option (ak×ak):=λh J=>match h,J with
 |.lst w,[.im s]=>if w.length<100000 then Z (.im .aV,.lst<|w++[s]) else Y
 |_,_=>Y
def wk{p:Nat}(e:p<100000):p<sizeLine:=eX e ∅
def mV:n6 b "list.append" kP:=by
 intro G j A m d Sp v SO D E a e f;let⟨h,J,u,p,Su,@SM,i,k,ah,c,r⟩:=f;unfold kP at c;split at c
 ·split at c
  ·rename_i l;cases c;let⟨g,@SI,rfl,t,C,rfl⟩:=i;let⟨y,I,q,@s,rfl,@⟨n,rfl⟩,@⟨rfl,rfl⟩,rfl⟩:=k;have h:gd m g:=⟨_,t,(λ_ c=>by cases c),(λ_ W c=>by cases c)⟩;refine NJ G j A m _ _ v SO D E a e ⟨g,SI,y,rfl,rfl,t,wk (by rw[<-C.length];exact l),r .aV _ [] [g] ⟨rfl,rfl⟩ ?_ (br.chg (.head _) h (ep _ _) λd o=>by simpa using o)⟩;exact⟨g,_,rfl,eT,(C.snoc n).mono<|cD.kl h,rfl⟩
  ·cases c
 ·cases c
@[simp] def qX:ak->List ak->Option (ak×ak):=λh J=>match h,J with
 |.lst w,[]=>(w.getLast?).map λs=>(.im s,.lst w.dropLast)
 |_,_=>Y
def bM.last{J:List ab}{w:List aj}{s:ab}(e:bM m J w)(c:J.getLast?=Z s):∃v,w[w.length-1]?=Z v/\cD m s v/\bM m J.dropLast w.dropLast:=by
 rw[B8]at c;let⟨@v,a,b⟩:=e.get c;refine⟨v,by rw[<-e.length];exact a,b,?_⟩;rw[Bo,Bo,<-e.length];exact e.take _
def Gs:n6 b "list.pop" qX:=by
 intro G j A m d Sp v SO D E a e f;let⟨h,J,u,x,Su,@SM,i,k,ah,c,r⟩:=f;unfold qX at c;split at c
 ·let⟨@s,l,n⟩:=cJ.mp c;cases n;let⟨g,@SI,rfl,t,C,rfl⟩:=i;let@⟨rfl,rfl⟩:=k;let⟨@y,o,p,q⟩:=C.last l;have h:gd m g:=⟨_,t,(λ_ c=>by cases c),(λ_ W c=>by cases c)⟩;refine QI G j A m _ _ v SO D E a e ⟨g,SI,y,rfl,rfl,t,o,r y _ [] [g] ⟨p.mono<|cD.kl h,rfl⟩ ?_ (br.chg (.head _) h (ep _ _) λd w=>by simpa using w)⟩;exact⟨g,_,rfl,eT,q.mono<|cD.kl h,rfl⟩
 ·cases c
@[simp] def ro:ak->List ak->Option (ak×ak):=λh J=>match h,J with
 |.lst w,[.im (.int a)]=>if 0<=a/\a<w.length then (w[a.toNat]?).map λs=>(.im s,.lst<|w.eraseIdx a.toNat) else Y
 |_,_=>Y
theorem bM.erase:∀{J:List ab}{w:List aj} (p:Nat),bM m J w->bM m (J.eraseIdx p) (w.eraseIdx p)
 |[],w,p,e=>by cases (show w=[] from e);exact rfl
 |s::J,w,0,e=>by let⟨v,@u,rfl,t,C⟩:=e;exact C
 |s::J,w,p+1,e=>by let⟨v,@u,rfl,t,C⟩:=e;exact⟨v,_,rfl,t,C.erase p⟩
def K3:n6 b "list.pop" ro:=by
 intro G j A m d Sp v SO D E e f i;let⟨h,J,u,z,Su,@SM,k,l,ah,c,r⟩:=i;unfold ro at c;split at c
 ·rename_i a;split at c
  ·rename_i U;let⟨@s,n,o⟩:=cJ.mp c;cases o;let⟨g,@SI,rfl,t,C,rfl⟩:=k;let⟨y,I,B,@F,rfl,@⟨p,rfl⟩,@⟨rfl,rfl⟩,rfl⟩:=l;cases (show y=.int a from p);let⟨@y,q,w⟩:=C.get n;have h:gd m g:=⟨_,t,(λ_ c=>by cases c),(λ_ W c=>by cases c)⟩;have H:SI.length<=sizeLine:=(E.aY g _ t).1;have L:=m_;refine Pd G j A m _ _ v SO D E e f ⟨g,SI,a,a.toNat,y,rfl,rfl,t,⋯,by have:=C.length;lia,tD U.1 (by rw[<-C.length];exact U.2),q,r y _ [] [g] ⟨w.mono<|cD.kl h,rfl⟩ ?_ (br.chg (.head _) h (ep _ _) λd x=>by simpa using x)⟩;exact⟨g,_,rfl,eT,(C.erase _).mono<|cD.kl h,rfl⟩
  ·cases c
 ·cases c
def uZ(b:aL)(pt:ak->ak->ak->Option ak):Prop:=(
 v_ b λn a v m D=>∃h o s c Su SM,cC m h n Su/\cC m o a []/\cC m s v SM/\(Su++SM).Nodup/\pt h o s=Z c/\∀T d,cC T c n d->br m (Su++SM) T d->D T)
@[simp] def pK(h o s:ak):Option ak:=match h,o,s with
 |.lst w,.im<|.int a,.im s=>(jA w.length a).map λi=>.lst (w.set i s)
 |_,_,_=>Y
theorem bM.set{m:ax}{s:ab}{v:aj}(l:cD m s v):∀{J:List ab}{w:List aj} (p:Nat),bM m J w->bM m (J.set p s) (w.set p v)
 |[],w,p,e=>by cases (show w=[] from e);exact rfl
 |c::J,w,0,e=>by let⟨L,@u,rfl,t,C⟩:=e;exact⟨v,u,rfl,l,C⟩
 |c::J,w,p+1,e=>by let⟨L,@u,rfl,t,C⟩:=e;exact⟨L,_,rfl,t,bM.set l p C⟩
def FZ:uZ b pK:=by
 intro G j A m n a v e f L D E z k l p;let⟨h,o,s,B,Su,@SM,q,hg,u,ah,c,r⟩:=p;unfold pK at c;split at c
 ·let⟨@i,w,x⟩:=cJ.mp c;cases x;let⟨g,@SI,rfl,t,C,rfl⟩:=q;let@⟨hd,rfl⟩:=u;have h:gd m g:=⟨_,t,(λ_ c=>by cases c),(λ_ W c=>by cases c)⟩;refine Mz G j A m _ _ _ e f L D E z k l ⟨g,SI,_,i,rfl,hg.1,t,by rw[<-C.length];exact w,r _ [g] ?_ (br.chg (.head _) h (ep _ _) λd y=>by simpa using y)⟩;exact⟨g,_,rfl,eT,(bM.set hd i C).mono<|cD.kl h,rfl⟩
 ·cases c
@[simp] def i7(a:Nat)(b:aA ak)(pt:ak->ak->ak->Option ak):fp:=λs B=>match B[a]? with
 |some (Z _)=>(b B).bind λq=>if q.1.ez=X then match q.2[a]? with
   |some (Z h)=>(pt h q.1 s).map λc=>q.2.set a (Z c)
   |_=>Y
  else Y
 |_=>Y
def mG{SX:List Nat}{o:bu}{w:aA ak}{pt:ak->ak->ak->Option ak}{SK:Pos}(M:bN b n (ly a))(O:cj b o w)(P:uZ b pt)(f:∀v,ig (.Subscript n o SK) b.env v=(do
   let i <-holding [v] (ck n b.env)
   let p <-holding [v,i] (ck o b.env)
   standAt SK
   holding [v,i,p] (vs i p v)
   release [v,i,p] []):=by intro W;rfl):hv b SX (.Subscript n o SK) (i7 a w pt):=by
 refine vk (La M O P f) λv A m D Q=>?_;let⟨B,N,s,Su,@SR,z,x,ah,j,r⟩:=Q;unfold i7 at j;split at j
 ·rename_i bv R;let⟨d,ca,@cd,q,ce,W,W⟩:=z.out R;let⟨@⟨l,Sy⟩,t,C⟩:=bS.mp j;split at C
  ·rename_i S;refine⟨d,q,B,N,l,Sy,z,(df.mp ah).1,t,λch SD F ci U hg k=>?_⟩;obtain rfl:=hg.ez S;rw[cB]at k;have al:=df.mp ah;dsimp only at C;split at C
   ·rename_i h am;let⟨@an,ap,as⟩:=cJ.mp C;cases as;let⟨cl,y,@E,G,a1,H,a2⟩:=U.out am;rw[q]at G;cases G;have bd:cC SD s v Su:=x.mono k.tup λg f n c=>k.keep g n c λe=>al.2.2 g e g f rfl;have I:br m (N++Su) SD ((y++Su)++E):=by
     have be:br m (N++Su) m (N++Su):=br.perm ah (List.Perm.refl _);have:=br.trans (F:=N) (Su:=Su) be k x.chg;refine this.k0 ((fq Su a2.symm).trans ?_);rw[bC];exact dC
    have J:=df.mp I.ah;refine⟨h,l,s,an,y,Su,a1,hg,bd,J.1,ap,λT co bi u=>?_⟩;have bm:bE T (Sy.set a<|Z .dB) A E:=H.mono u.tup λg f n c=>u.keep g n c λe=>J.2.2 g e g f rfl;let⟨bn,@Ss,L,bs⟩:=bm.back bi q;rw[w4]at L;exact r A T bn dP.refl L ((I.trans u H.chg).less<|bs.trans dC)
   ·cases C
  ·cases C
 ·cases j
end
end L2
namespace L2
open Spec PyProof.Rows PySem.W
variable{Q:List Int}{q:Array Nat}{SU:Type}
def MR(k:List SU)(s:SU):(range k.length).map (λa=>k.getD a s)=k:=by
 apply F_
 ·simp
 ·intro a t C;simp[List.getD,C]
def y5{k:List SU}{s:SU}(e:c4 k.length q):(q.toList.map λa=>k.getD a s).Perm k:=by
 have:=Gf (λa=>k.getD a s) e;rw[MR]at this;exact this
theorem vp{SU Tx:Type}{N:SU->Tx->Prop}:∀{b:List SU}{c:List Tx},b.length=c.length->(∀(a:Nat) g f,b[a]?=Z g->c[a]?=Z f->N g f)->eg N b c
 |[],[],_,_=>.nil
 |g::k,f::H,e,x=>.cons (x 0 g f rfl rfl) (vp ⇑e λa d y t C=>x (a+1) d y ⇑t ⇑C)
 |[],_::_,e,_=>by simp at e
 |_::_,[],e,_=>by simp at e
section
variable{Sz:bA}{l:bk}{O:bw}{Sv:ae->ao->Prop}{j:ao}{Sp:List ae}
def Aa{SN:af}{J:Nat}{R:PySem.Fin->ao->Prop}(P:Nat->Int)(SS:gA)(d:j.heap.get? SN=Z (gs "list" Sp.toArray J))(B:2<=Sp.length->∀b:a5,(∀f n,f≠SN->j.heap.get? f=Z n->b.get? f=Z n)->∀D:gA->ao->Prop,D SS {j with heap:=b}->wpAny (aS Sz l) O (ye Sp.toArray) D Sv {j with heap:=b})(E:∀b:a5,(∀f n,f≠SN->j.heap.get? f=Z n->b.get? f=Z n)->fO Sp.length P (ff Sz l O SS<|Sp.toArray.zip Sp.toArray) {j with heap:=b})(up:Sp.length<1001\/∀i,1<=i->i<Sp.length->P (i-1)<=P i)(F:Sp.length<=1000)(e:∀(q:Array Nat) (Sq:a5),c4 Sp.length q->i0 P q Sp.length->(∀f n,f≠SN->j.heap.get? f=Z n->Sq.get? f=Z n)->(∃c,Sq.get? SN=Z (gs "list" (q.toList.map λa=>Sp.getD a ae.none).toArray c))->
   R (.done<|.ret .none) {j with heap:=Sq}):wpAny (aS Sz l) O (a_.«list.sort» ⟨[.ref SN],[]⟩) R Sv j:=by
 have x:Sp.length<=sizeLine:=ew F ∅;rw[list_sort_plain];have S:SN<j.heap.objs.size:=cn d;refine aw (listItems_at d rfl (aw (zY d rfl ?_ (hsz:=by rw[cO];exact x) (hsz2:=by show 0<=_;exact gI _))));have p:=Fi d (λ_=>#[]);generalize U:(if (#[]:Array ae).size==Sp.toArray.size then J else J+1)=y at p;refine aw (seqEpoch_at p rfl (aw (z5 (aw<|xR<|fB ?_) ⇑x)));have k:∀f n,f≠SN->j.heap.get? f=Z n->(((j.heap.update SN<|bj.mapSeq λ_=>#[]).push<|gs "tuple" Sp.toArray.toList.toArray 0).push<|gs "list" ([]:List ae).toArray 0).get? f=Z n:=λf n m c=>
  cw _ (cw _<|(ks _ _<|fP m).trans c);have T:(((j.heap.update SN<|bj.mapSeq λ_=>#[]).push<|gs "tuple" Sp.toArray.toList.toArray 0).push<|gs "list" ([]:List ae).toArray 0).get? SN=Z (gs "list" #[] y):=
  cw _ (cw _ p);show wpAny (aS Sz l) O _ R Sv {j with heap:=((j.heap.update SN<|bj.mapSeq λ_=>#[]).push<|gs "tuple" Sp.toArray.toList.toArray 0).push (gs "list" ([]:List ae).toArray 0)};generalize ((j.heap.update SN<|bj.mapSeq λ_=>#[]).push<|gs "tuple" Sp.toArray.toList.toArray 0).push (gs "list" ([]:List ae).toArray 0)=b at k T ⊢;have fin:∀(z:bz) (q:Array Nat),c4 Sp.length q->i0 P q Sp.length->arrOf z=q.map (bb<|Sp.toArray.zip Sp.toArray)->hA z=Y->
   wpAny (aS Sz l) O (do
    let I:=(<-seqEpoch SN) != y
    a_.List.listUpdate (.ref SN) λ_=>(arrOf z).map (·.2)
    if let Z c:=hA z then rule "list.sort.comparison-raised";throw c
    if I then rule "list.sort.modified";raiseError "ValueError" "list modified during sort"
    ret .none) R Sv {j with heap:=b}:=λz q o r t v=>by
  have out:=kat_snds (ks:=Sp) (vs:=Sp) rfl t;rw[out,v];refine aw (seqEpoch_at (s:={j with heap:=b}) T rfl (aw (zY (s:={j with heap:=b}) T rfl ?_ (hsz:=gI _) (hsz2:=by
   show (List.toArray<|q.toList.map λa=>Sp.getD a ae.none).size<=_;rw[cO,a9,fy,o.size];lia))))
  simp only[bne_self_eq_false,iL,gD];refine aW (e q _ o r (λf n m c=>(ks _ _<|fP m).trans<|k f n m c) ⟨_,Fi T λ_=>_⟩)
 dsimp only;by_cases C:Sp.toArray.size<2
 ·rw[aJ C,aJ C];refine aw (aW ?_);rw[StateT.run_pure];apply aw;apply aW;have w:Sp.length<2:=by simpa using C
  refine fin (bz.mk' general' (Sp.toArray.zip Sp.toArray) #[] 7 Y) (range Sp.length).toArray (List.Perm.refl _) (λa i al am=>?_) ?_ rfl
  ·have:a=i:=⋯
   subst this;exact jX _
  ·have:=kas_range (Sp.toArray.zip Sp.toArray);rw[show (Sp.toArray.zip Sp.toArray).size=Sp.length by simp]at this;exact this.symm
 ·rw[aM C,aM C];have w:2<=Sp.length:=by simpa using C
  refine aw (B w b k _ ?_)
  ·have M:=E b k;have A:=kas_range (Sp.toArray.zip Sp.toArray);rw[show (Sp.toArray.zip Sp.toArray).size=Sp.length by simp]at A;have run:=Jg (Sv:=Sv) (D:=λ_ z Sr=>Sr={j with heap:=b}/\∃q,c4 Sp.length q/\i0 P q Sp.length/\arrOf z=q.map (bb<|Sp.toArray.zip Sp.toArray)/\hA z=Y) M
    w up λN an g f h s=>⟨rfl,N,g,f,h,s⟩;unfold uU at run;rw[A]at run;refine aw (hl run (λu Sr Q=>?_) λ_ W c=>c);let⟨L,z⟩:=u;let@⟨rfl,⟨@q,o,r,t,v⟩⟩:=Q;exact fin z q o r t v
end
section
variable{b:aL}{G:List (af×bj)}{A:L2.a3}{m:ax}{j:ao}
def Ce(bi:b.calm=X){g:af}{SI:List aj}{SG:List ae}{p:Nat}{S:String}{n:bj}{D:cI}(P:Nat->Int)(SS:gA)(E:aH b G A m j)(I:bW SI SG)(T:S = "list" \/ S = "tuple")(c:j.heap.get? g=Z n)(aE:n.cls=.type S)(U:n.data=.seq SG.toArray p)(bm:SI.length<=1000)(al:2<=SG.length->∀(e:a5) (Tb:Nat),(∀f n,j.heap.get? f=Z n->e.get? f=Z n)->∀(O:bw) (Sv:ae->ao->Prop) (D:gA->ao->Prop),D SS {j with heap:=e,toks:=Tb}->wpAny (aS b.prog b.w) O (ye SG.toArray) D Sv {j with heap:=e,toks:=Tb})(am:∀(e:a5) (Tb:Nat),(∀f n,j.heap.get? f=Z n->e.get? f=Z n)->fO SG.length P (ff b.prog b.w b.A.in1.in1 SS<|SG.toArray.zip SG.toArray) {j with heap:=e,toks:=Tb})(up:SG.length<1001\/∀i,1<=i->i<SG.length->P (i-1)<=P i)(r:∀(q:Array Nat) k,c4 SG.length q->i0 P q SG.length->m k=Y->D (.ref k) (upd m k<|.lst<|q.toList.map λa=>SI.getD a .aV)):
  wpAny (aS b.prog b.w) b.A (call (.builtin "sorted") [.ref g]) (eO b G A D) b.cU j:=by
 have bn:SI.length=SG.length:=I.length;have J:SG.length<=sizeLine:=ew ⋯ (show 1000<=sizeLine by decide);refine xV kind_sorted GP FY (CE _) ?z
 case z=>
  unfold a_.«sorted»;refine aw (m:=checkCount "sorted" 1 1 _) (aW (aw (wpAny_collect_seq g T c aE U (λSq u=>?_) (by rw[cO];exact J))));show wpAny _ _ (qQ SG >>= _) _ _ _;refine aw (xR ?_ J);have M:(Sq.push<|gs "list" SG.toArray 0).get? Sq.objs.size=Z (gs "list" SG.toArray 0):=dx _ rfl;have a8:∀f n,j.heap.get? f=Z n->(Sq.push<|gs "list" SG.toArray 0).get? f=Z n:=λf n c=>cw _ (u f n c);have N:aH b G A m {j with heap:=Sq}:=E.kept (S5:=j.toks) u;have Q:∀f n,j.heap.get? f=Z n->f≠Sq.objs.size:=λf n c=>dU (cn<|u f n c);refine aw (fB<|iH Ek ⟨_,M,rfl⟩ GZ ?y<|Gm _)
  case y=>
   refine Aa (j:={j with heap:=Sq.push (gs "list" SG.toArray 0)}) P SS M (λC e x D an=>al C e j.toks (λf n h=>x f n (Q f n h)<|a8 f n h) _ _ D an) (λe x=>am e j.toks λf n h=>x f n (Q f n h)<|a8 f n h) up ⋯ λq C B ap S8 ⟨as,a1⟩=>⟨_,rfl,aW ⟨_,rfl,?_⟩⟩;have a2:m Sq.objs.size=Y:=N.aY.fresh (bl _);have bd:∀f n,Sq.get? f=Z n->f≠Sq.objs.size:=λf n c=>dU (cn c);refine⟨.ref Sq.objs.size,upd m Sq.objs.size<|.lst<|q.toList.map λa=>SI.getD a .aV,?_,rfl,r q _ B ap a2⟩;refine N.laid (S5:=j.toks) (λf L c=>S8 f L (bd f L c)<|cw _ c) (bl _) ⟨?_,_,as,?_,a1⟩
   ·rw[a9,fy,B.size];lia
   ·refine vp ↥0 λa v L t C=>?_;rw[gq]at t C;cases F:q.toList[a]? with
    |none=>rw[F]at t;cases t
    |some o=>
     rw[F]at t C;cases t;cases C;have R:o<SG.length:=gr.mp (B.mem_iff.mp<|j1 F);let⟨@L,s,be⟩:=I.get (a:=o) (d:=SI[o]'⋯) (by simp[show o<SI.length by lia]);rw[e4 R]at s;have s:=Option.some.inj s;simp only[List.getD,e4 R,e4 (show o<SI.length by lia),uz];rw[s];exact be
end
def pZ(Q:List Int)(a:Nat):Int:=(Q.getD a 0)
def IW(ah:Q.Nodup):∀a i,a<Q.length->i<Q.length->pZ Q a=pZ Q i->a=i:=λa i U b c=>by
 unfold pZ at c;rw[cN,cN,e4 U,e4 b]at c;have d:Q[a]=Q[i]:=c;rcases qS a i with e|e|e
 ·exact absurd d ((pe.mp ah) a i U b e)
 ·exact e
 ·exact absurd d.symm ((pe.mp ah) i a b U e)
def H5(b:c4 Q.length q)(up:i0 (pZ Q) q Q.length)(ah:Q.Nodup):(q.toList.map λa=>Q.getD a 0).Pairwise (· < ·):=by
 rw[pe];intro a i U c g;have d:=b.size;have j:a<Q.length:=by simpa [d] using U
 have e:i<Q.length:=by simpa [d] using c
 have ne:=b.ne (IW ah) g e;have le:=up a i ⋯ e;have M:∀o (f:o<(q.toList.map λa=>Q.getD a 0).length),(q.toList.map λa=>Q.getD a 0)[o]=ba (pZ Q) q o:=λo f=>by
  have h:o<q.size:=by simpa using f
  rw[sC,Fm];show _=Q.getD (q.getD o 0) 0;simp[Array.getD,h]
 rw[M a U,M i c];lia
section
variable{b:aL}
theorem vr{m:ax}:∀{Q:List Int}{SG:List ae},bW (Q.map aj.int) SG->∀(a:Nat),a<Q.length->∃I,SG[a]?=Z (.int (Q.getD a 0) I)
 |p::u,_,.cons g f,0,e=>by let⟨@I,rfl⟩:=g;exact⟨I,rfl⟩
 |p::u,_,.cons g f,a+1,e=>by
  let⟨@I,c⟩:=vr (m:=m) f a ⇑e;exact⟨I,by simpa using c⟩
def Rv(x:b.calm=X):eA b (.builtin "sorted") (λw m D=>∃(g:af) (Q:List Int),w=[.ref g]/\m g=Z (.lst<|Q.map aj.int)/\Q.Nodup/\Q.length<=1000/\
  ∀k (h:List Int),m k=Y->h.Perm Q->h.Pairwise (· < ·)->D (.ref k) (upd m k<|.lst<|h.map aj.int)):=by
 intro G j A m w SO D E u e;let⟨g,@Q,rfl,y,ah,B,r⟩:=e;let⟨@L,rfl,F⟩:=ir u;cases F;let@⟨z,⟨SG,@p,d,c⟩⟩:=E.aY g _ y;have l:SG.length=Q.length:=by rw[<-d.length,a9]
 refine Ce x (pZ Q) oneType' E d (.inl rfl) c rfl rfl (by rw[a9];exact B) (λC H Tb o O Sv D J=>?_) (λH Tb o=>?_) (.inl ⋯) λq k f n aT=>?_
 ·refine kas_kind (T:=ae.type "int") C (λv M=>?_) ∅ ∅ J;let⟨@a,U⟩:=List.getElem?_of_mem M;let⟨@I,s⟩:=vr (m:=m) d a (by rw[<-l];exact (fX.mp U).1);rw[U]at s;cases s;exact BB rfl
 ·intro a i aO U T r;let⟨@I,t⟩:=vr (m:=m) d a ⋯;let⟨@L,C⟩:=vr (m:=m) d i ⋯;unfold ff;rw[sz rfl,sz rfl,cN,cN,t,C];show wpAny _ _ (keyLt' oneType' (.int _ I)<|.int _ L) _ _ _;rw[keyLt'_oneType];exact oneLt_int r
 ·rw[l]at f n;have N:(q.toList.map λa=>(Q.map aj.int).getD a .aV)=(q.toList.map λa=>Q.getD a 0).map aj.int:=by
   rw[gf];refine mm λo P=>?_;have R:o<Q.length:=gr.mp (f.mem_iff.mp P);show (Q.map aj.int).getD o .aV=aj.int (Q.getD o 0);simp[List.getD,R]
  rw[N];exact r k _ aT (y5 f) (H5 f n ah)
end
end L2
namespace L2
open Spec PyProof.Rows
section
variable{b:aL}
def gL:List ab->List ab->List ab
 |d::w,y::SI=>.tup [d,y]::gL w SI
 |_,_=>[]
theorem Dq:∀(w SI:List ab),(gL w SI).length=min w.length SI.length
 |[],SI=>by simp[gL]
 |d::w,[]=>by simp[gL]
 |d::w,y::SI=>by simp[gL,Dq w SI]
theorem Gw:∀(w SI:List ab) (a:Nat) (s:ab),(gL w SI)[a]?=Z s->∃d y,w[a]?=Z d/\SI[a]?=Z y/\s=.tup [d,y]
 |[],SI,a,s,e=>by simp[gL]at e
 |d::w,[],a,s,e=>by simp[gL]at e
 |d::w,y::SI,0,s,e=>by simp[gL]at e;exact⟨d,y,rfl,rfl,e.symm⟩
 |d::w,y::SI,a+1,s,e=>by
  let⟨g,f,t,C,b⟩:=Gw w SI a s (by simpa [gL] using e);exact⟨g,f,by simpa using t,by simpa using C,b⟩
@[simp] def jS(M:aA (List bP)):jW:=λB=>(M B).bind λq=>(ip q.2 q.1).bind λJ=>match J with
 |[.im (.tup d),.im<|.tup y]=>Z ((gL d y,Y),q.2)
 |_=>Y
theorem RN{So:Φ}{m:ax}{g f:af}{w SI:List aj}{J Sx:List ab}(e:m g=Z (.tup w))(hd:bM m J w)(Sq:m f=Z (.tup SI))(b:bM m Sx SI):lR (sR So g f) m [] (gL J Sx) where
 go:=λT I o a s c=>by
  let⟨d,y,p,q,rfl⟩:=Gw J Sx a s c;let⟨v,h,r⟩:=hd.get p;let⟨L,S6,S8⟩:=b.get q;have i:=cu.of (So:=So) (I.tup g _ e);have k:=cu.of (So:=So) (I.tup f _ Sq);refine⟨⟨w,SI,v,L,i,k,h,S6⟩,λB C ⟨S,D,E,x,t,u,z,A⟩=>?_⟩;subst t u;have l:=z w i;have n:=A SI k;rw[h]at l;rw[S6]at n;cases l;cases n;have j:cZ T (upd T S<|.tup [v,L]):=(cZ.refl T).upd x;exact⟨j,S,[v,L],rfl,eT,⟨v,[L],rfl,(r.mono I.tup).mono j.tupS.tup,L,[],rfl,(S8.mono I.tup).mono j.tupS.tup,rfl⟩⟩
 stop:=λT I o=>⟨w,SI,cu.of<|I.tup g _ e,cu.of<|I.tup f _ Sq,by rw[Dq,<-hd.length,<-b.length];lia⟩
def vh{g f:bu}{M:aA (List bP)}{q SK:Pos}{Sx:List bu}{TO:Nat}{SJ:Pos}(i:eS b "zip")(j:b.az "zip" = Y)(a:fM b [g,f] M)(k:bV [g,f] b.env=[(ar,ck g b.env),(ar,ck f b.env)]:=by rfl)(l:bV [f] b.env=[(ar,ck f b.env)]:=by rfl):
  mA b (.Tuple Sx TO SJ) (.Call (.Name "zip" q) [g,f] [] SK) (jS M):=by
 refine xB (PW i j a k l) λA m D ⟨B,N,u,SR,z,ah,n,r⟩=>?_;let⟨⟨P,Sy⟩,t,C⟩:=bS.mp n;let⟨J,o,d⟩:=bS.mp C;refine⟨B,N,P,Sy,z,ah,t,λSp SD F G e E p=>?_⟩;have s:=E.read e o;split at d
 ·cases d;let⟨v,L,rfl,c,x⟩:=zq s;let⟨g,w,rfl,S6,S8⟩:=c;let⟨f,SI,rfl,h,y⟩:=x;exact⟨g,f,rfl,⟨w,cu.of S6⟩,⟨SI,cu.of h⟩,r _ SD F [] e (RN S6 S8 h y) trivial (λg a=>nomatch a) (by rw[cB];exact p.both)⟩
 ·cases d
@[simp] def Sl:h2:=λJ=>match J with
 |[.im (.int a),.im<|.int i,.im<|.int o]=>Z (.im<|.int<|min (min a i) o)
 |_=>Y
def ki(lt:ab->ab->Bool)(d:ab):List ab->List ab
 |[]=>[d]
 |y::u=>if lt d y=X then d::y::u else y::ki lt d u
def ia(lt:ab->ab->Bool):List ab->List ab
 |[]=>[]
 |d::u=>ki lt d (ia lt u)
def vb:ab->ab->Bool
 |.int a,.int i=>decide (a<i)
 |_,_=>ar
def p_:List ab->Option (List Int)
 |[]=>Z []
 |.int a::u=>(p_ u).map λj=>a::j
 |_::_=>Y
@[simp] def yL:h2:=λJ=>match J with
 |[.lst d]=>(p_ d).bind λQ=>if Q.Nodup/\Q.length<=1000 then Z (.lst<|ia vb d) else Y
 |_=>Y
def lS(d:Int):List Int->List Int
 |[]=>[d]
 |y::u=>if d<y then d::y::u else y::lS d u
def pF:List Int->List Int
 |[]=>[]
 |d::u=>lS d (pF u)
theorem A6(d:Int):∀k:List Int,ki vb (.int d) (k.map .int)=(lS d k).map .int
 |[]=>rfl
 |y::u=>by
  rw[cE,ki,lS,vb];by_cases e:d<y
  ·rw[aJ ⇑e,aJ e];rfl
  ·rw[aM ⇑e,aM e,A6 d u];rfl
theorem z2:∀k:List Int,ia vb (k.map .int)=(pF k).map .int
 |[]=>rfl
 |d::u=>by rw[cE,ia,z2 u,A6];rfl
theorem zl(d:Int):∀k:List Int,(lS d k).Perm (d::k)
 |[]=>List.Perm.refl _
 |y::u=>by
  rw[lS];split
  ·exact List.Perm.refl _
  ·exact ((zl d u).cons y).trans (List.Perm.swap d y u)
theorem xb:∀k:List Int,(pF k).Perm k
 |[]=>List.Perm.refl _
 |d::u=>(zl d _).trans ((xb u).cons d)
theorem CN(d:Int):∀k:List Int,k.Pairwise (·<=·)->(lS d k).Pairwise (·<=·)
 |[],_=>ep _ _
 |y::u,e=>by
  let⟨t,C⟩:=hQ.mp e;rw[lS];split
  ·rename_i c;refine hQ.mpr ⟨λb a=>?_,e⟩;rcases cq.mp a with rfl|a
   ·lia
   ·have:=t b a;lia
  ·rename_i c;refine hQ.mpr ⟨λb a=>?_,CN d u C⟩;rcases cq.mp ((zl d u).mem_iff.mp a) with rfl|a
   ·lia
   ·exact t b a
theorem G7:∀k:List Int,(pF k).Pairwise (·<=·)
 |[]=>List.Pairwise.nil
 |d::u=>CN d _ (G7 u)
def N3{k:List Int}(e:k.Nodup):(pF k).Pairwise (· < ·):=by
 have t:=G7 k;have C:(pF k).Nodup:=(xb k).nodup_iff.mpr e;exact IP (λg f d y=>⋯) t C
theorem CC:∀{k H:List Int},k.Perm H->k.Pairwise (· < ·)->H.Pairwise (· < ·)->k=H
 |[],H,e,_,_=>e.nil_eq
 |g::k,[],e,_,_=>absurd e.length_eq ↥0
 |g::k,f::H,e,d,h=>by
  have a:=hQ.mp d;have b:=hQ.mp h;have c:g=f:=by
   rcases cq.mp (e.mem_iff.mp<|.head _) with z|z
   ·exact z
   ·rcases cq.mp (e.mem_iff.mpr<|.head _) with y|y
    ·exact y.symm
    ·have t:=a.1 f y;have C:=b.1 g z;omega
  subst c;rw[CC e.cons_inv a.2 b.2]
theorem Er:∀{d:List ab}{Q:List Int},p_ d=Z Q->d=Q.map .int
 |[],Q,e=>by cases e;rfl
 |.int a::u,Q,e=>by
  rw[p_]at e;let⟨j,t,rfl⟩:=cJ.mp e;rw[Er t];rfl
 |.aV::_,_,e=>by cases e
 |.av _::_,_,e=>by cases e
 |.str _::_,_,e=>by cases e
 |.tup _::_,_,e=>by cases e
 |.fn _::_,_,e=>by cases e
 |.aT _::_,_,e=>by cases e
 |.fd::_,_,e=>by cases e
theorem EP{m:ax}:∀{Q:List Int}{Sp:List aj},bM m (Q.map .int) Sp->Sp=Q.map aj.int
 |[],Sp,e=>e
 |p::u,Sp,e=>by
  let⟨v,I,rfl,t,C⟩:=e;cases (show v=.int p from t);rw[EP C];rfl
theorem BK{m:ax}:∀Q:List Int,bM m (Q.map .int) (Q.map aj.int)
 |[]=>rfl
 |p::u=>⟨.int p,_,rfl,rfl,BK u⟩
def KI(f:b.calm=X)(i:b.A.units+20<b6):hu b (.builtin "sorted") yL:=by
 refine (Rv f).imp λw m D ⟨J,s,g,c,r⟩=>?_;unfold yL at c;split at c
 ·rename_i d;let⟨Q,h,a⟩:=bS.mp c;split at a
  ·rename_i e;cases a;let⟨v,rfl,W,q,w,rfl,t,C,W⟩:=gi g;cases Er h;cases EP C;refine⟨q,Q,rfl,t,e.1,e.2,λk j aT S4 up=>?_⟩;rw[z2]at r;rw[CC (S4.trans (xb Q).symm) up (N3 e.1)];exact cb.l r aT (BK _)
  ·cases a
 ·cases c
def zf(a:b.A.units+20<b6):uZ b pK:=FZ
end
end L2
namespace L2
variable{g e M f:bH}{c:aA ak}{own H p:Nat}{J:List ak}{SX:List Nat}{n:Option (Nat×ak)}{w:List ab}{s:ak}{Sy B:a7}{h:aA Bool}{S1:fp}{SU:Type}{i a:Int}
@[simp] theorem R1(s:ab)(B:a7):aE s B=Z (.im s,B):=rfl
@[simp] theorem CF(B:a7):aB B=Z ([],B):=rfl
@[simp] theorem Se(B:a7):en B=Z (.bo,B):=rfl
@[simp] theorem Sh(B:a7):jc B=Z (Y,B):=rfl
@[simp] theorem R0(B:a7):cP B=Z (X,B):=rfl
@[simp] theorem R2(s:ab):(ak.im s).ez=X:=rfl
@[simp] theorem R8(s:List ab):(ak.cY s).ez=X:=rfl
@[simp] theorem Sn(s:List ab):(ak.lst s).ez=ar:=rfl
@[simp] theorem RY(s:List (List ab×ab)):(ak.ay s).ez=ar:=rfl
@[simp] theorem Sd(s:List (eo×ab)):(ak.dE s).ez=ar:=rfl
@[simp] theorem Nz(B:a7)(s:ak):dW B (.cf s)=Z s:=rfl
@[simp] theorem R7(B:a7)(a:Nat):dW B (.aQ a)=(B[a]?).getD Y:=rfl
@[simp] theorem Je(B:a7):ip B []=Z []:=rfl
@[simp] theorem Rw(B:a7)(n:bP)(P:List bP):ip B (n::P)=(dW B n).bind λs=>(ip B P).map λJ=>s::J:=rfl
@[simp] theorem KD(B:a7):fm [] B=Z ([],B):=rfl
@[simp] theorem OO(s:ak)(P:List bP)(B:a7):fm (.cf s::P) B=(fm P B).map λq=>(s::q.1,q.2):=rfl
@[simp] theorem RZ(a:Nat)(P:List bP)(B:a7):fm (.aQ a::P) B=(et a B).bind λq=>(fm P q.2).map λr=>(q.1::r.1,r.2):=rfl
@[simp] theorem Sm:hR []=Z []:=rfl
@[simp] theorem R3(s:ab)(J:List ak):hR (.im s::J)=(hR J).map λu=>s::u:=rfl
@[simp] theorem Sk(f:Bool):nT (.im<|.av f)=Z f:=rfl
def m7(t : -(2^64)<i)(C:i<2^64):hq a i=X:=by
 have:a_.Int.intBits i<=64:=Ew t C;have Sq:¬ (a_.Int.intBits i>tO):=Fp.mpr this;unfold hq;rw[dm Sq];simp
def Iy(t : -(2^64)<a)(C:a<2^64):hq a i=X:=by
 have:a_.Int.intBits a<=64:=Ew t C;have Sq:¬ (a_.Int.intBits a>tO):=Fp.mpr this;unfold hq;rw[dm Sq];simp
def HT{w:List SU}(e:w.length<=p):w.take p=w:=qx e
def J3(w:List SU)(o:Nat):gy w (Z (o:Int)) Y=w.drop o:=by
 unfold gy;rw[dr.LC,dr.Mw];by_cases e:o<=w.length
 ·rw[qw e,HT (by rw[gZ];lia)]
 ·rw[Nat.min_eq_right ⋯,y0,ue,nv ⋯]
def rF{w:List SU}{s:SU}(b:0<=a)(e:w[a.toNat]?=Z s):dH w a=Z s:=by
 unfold dH jA;have U:a.toNat<w.length:=(fX.mp e).1;rw[aJ b,aJ ⋯];exact e
def sv{w:List SU}{s:SU}(e:w.getLast?=Z s):dH w (-1)=Z s:=by
 rw[B8]at e;have U:w.length-1<w.length:=(fX.mp e).1;unfold dH jA;rw[aM ∅,aJ ⋯];show w[(-1+(w.length:Int)).toNat]?=Z s;rw[show (-1+(w.length:Int)).toNat=w.length-1 by lia];exact e
def K5(E:Nat->a7->Prop)(Su:ak->a7->Prop):∀{w:List ab}{B:a7},E 0 B->
  (∀(a:Nat) (d:ab) (B:a7),w[a]?=Z d->E a B->∃Sy aT S2,S1 (.im d) B=Z Sy/\f Sy=Z (aT,S2)/\(((aT=.bo\/aT=.b3)/\E (a+1) S2)\/∃s,aT=.es s/\Su s S2))->
  (∃SR,d3 S1 f w B=Z (.bo,SR)/\E w.length SR)\/∃s SR,d3 S1 f w B=Z (.es s,SR)/\Su s SR:=by
 intro w;induction w generalizing E with
 |nil=>intro B b W;exact .inl ⟨B,rfl,b⟩
 |cons d u g=>
  intro B b e;let⟨Sy,aT,@S2,t,C,h⟩:=e 0 d B rfl b;rcases h with ⟨i,d2⟩|⟨s,rfl,j⟩
  ·have:=g (λa=>E<|a+1) (B:=S2) d2 λa y SR k l=>e (a+1) y SR ⇑k l;have c:d3 S1 f (d::u) B=d3 S1 f u S2:=by
    rw[d3];dsimp only;rw[t];show (f Sy).bind _=_;rw[C];rcases i with rfl|rfl<;>rfl
   rw[c];exact this
  ·refine .inr ⟨s,S2,?_,j⟩;rw[d3];dsimp only;rw[t];show (f Sy).bind _=_;rw[C];rfl
def w6(E:Nat->a7->Prop){w:List ab}{B:a7}(b:E 0 B)(e:∀(a:Nat) (d:ab) (B:a7),w[a]?=Z d->E a B->∃Sy aT S2,S1 (.im d) B=Z Sy/\f Sy=Z (aT,S2)/\(aT=.bo\/aT=.b3)/\E (a+1) S2):
  ∃SR,d3 S1 f w B=Z (.bo,SR)/\E w.length SR:=by
 rcases K5 E (λ_ W=>False) b (λa d B c d2=>by
  let⟨Sy,aT,@S2,t,C,g,h⟩:=e a d B c d2;exact⟨Sy,aT,S2,t,C,.inl ⟨g,h⟩⟩) with e|⟨_,_,_,e⟩
 ·exact e
 ·exact e.elim
def pL(E:Nat->a7->Prop)(b:a7->Prop)(step:∀H B,E H B->∃I Sy,h B=Z (I,Sy)/\(I=X->∃aT S2,f Sy=Z (aT,S2)/\(aT=.bo\/aT=.b3)/\∃a,a<H/\E a S2)/\(I=ar->b Sy)):
  ∀(p H:Nat) (B:a7),E H B->H<p->∃SR,il h f p B=Z (.bo,SR)/\b SR:=by
 intro p;induction p with
 |zero=>intro H B W e;lia
 |succ p c=>
  intro H B d2 l;let⟨I,@Sy,t,C,d⟩:=step H B d2;rw[il];dsimp only;rw[t];cases I with
  |false=>exact⟨Sy,rfl,d rfl⟩
  |true=>
   let⟨aT,@S2,g,hf,⟨@a,m,i⟩⟩:=C rfl;let⟨@SR,j,k⟩:=c a S2 i ⋯;refine⟨SR,?_,k⟩;simp only[rj,hx,g];rcases hf with rfl|rfl<;>exact j
def NN(w:List SU):w.filter (λ_=>X)=w:=List.filter_eq_self.mpr λ_ W=>rfl
def ht(c:M B=Z (.bo,Sy)):bt M e B=e Sy:=by unfold bt;rw[c];rfl
def la(c:M B=Z (.es s,Sy)):bt M e B=Z (.es s,Sy):=by unfold bt;rw[c];rfl
def sX{M:jW}{S2:a7}{aT:mR}(c:M B=Z ((w,n),Sy))(e:d3 S1 f w Sy=Z (aT,S2)):gj M S1 f B=Z (aT,lb n S2):=by
 unfold gj;rw[c];show (d3 S1 f w Sy).map _=_;rw[e];rfl
def JV{u:ak}(a:J.length=p)(c:M (J.map Z++replicate (H-p) Y)=Z (.es u,B)):c_ p H SX M J=Z (u,iA SX J B 0):=by
 unfold c_;rw[aJ a,c]
def n_{SV:List Nat}{Q:jW}{a:a7}{J:List ab}(t:Q B=Z ((w,n),Sy))(C:g6 own S1 h c w [] (jn SV Sy)=Z (J,a)):b1 own SV Q S1 h c B=Z (.lst J,lb n<|iM SV a Sy):=by
 unfold b1;rw[t];show (g6 own S1 h c w []<|jn SV Sy).map _=_;rw[C];rfl
def eU{M:aA ak}(c:M B=Z (s,Sy)):cF M B=Z (.es s,Sy):=by unfold cF;rw[c];rfl
def xa{a:Nat}{M:aA ak}(c:M B=Z (s,Sy))(e:a<Sy.length):bZ a M B=Z (.bo,Sy.set a<|Z s):=by unfold bZ;rw[c];show (if a<Sy.length then _ else _)=_;rw[aJ e]
def z3(c:h B=Z (X,Sy)):dy h g f B=g Sy:=by unfold dy;rw[c];rfl
def De(c:h B=Z (ar,Sy)):dy h g f B=f Sy:=by unfold dy;rw[c];rfl
def sk(B:a7){u:ak}{G:List ak}(a:J.length=p)(c:M (J.map Z++replicate (H-p) Y)=Z (.es u,B))(b:iA SX J B 0=G):c_ p H SX M J=Z (u,G):=by
 rw[JV a c,b]
theorem j5{SU:Type}{own:Nat}{S1:fp}{h:aA Bool}{c:aA ak}{aO:a7}(b:SU->ab)(q:SU->Bool)(x:SU->ab):∀(w:List SU) (a:List ab),(∀d∈w,∃Sy S2,S1 (.im<|b d) (replicate own Y++aO)=Z Sy/\h Sy=Z (q d,S2)/\(q d=ar->S2.drop own=aO)/\(q d=X->∃Tq,c S2=Z (.im<|x d,Tq)/\Tq.drop own=aO))->
  a.length+w.length<=100000->g6 own S1 h c (w.map b) a aO=Z (a++(w.filter q).map x,aO)
 |[],a,_,_=>by simp[g6]
 |d::u,a,e,i=>by
  let⟨Sy,@S2,t,C,j,k⟩:=e d (.head _);rw[dF]at i;rw[cE,g6,t];show (h Sy).bind _=_;rw[C];show (if q d=X then _ else _)=_;cases f:q d with
  |false=>
   rw[aM dA];show g6 own S1 h c (u.map b) a (S2.drop own)=_;rw[j f,j5 b q x u a (λy g=>e y<|.tail _ g) ⋯,sN,f];rfl
  |true=>
   let⟨@Tq,l,m⟩:=k f;rw[aJ rfl];show (c S2).bind _=_;rw[l];show (if a.length<100000 then g6 own S1 h c (u.map b) (a++[x d]) (Tq.drop own) else Y)=_;rw[aJ ⋯,m,j5 b q x u (a++[x d]) (λy g=>e y<|.tail _ g) (by rw[c5,eD];lia),sN,f];simp
def fA{aO:a7}(a:SU->ab)(x:SU->ab)(w:List SU)(e:∀d∈w,∃Sy S2 Tq,S1 (.im<|a d) (replicate own Y++aO)=Z Sy/\h Sy=Z (X,S2)/\c S2=Z (.im<|x d,Tq)/\Tq.drop own=aO)(j:w.length<=100000):g6 own S1 h c (w.map a) [] aO=Z (w.map x,aO):=by
 have:=j5 (own:=own) (S1:=S1) (h:=h) (c:=c) (aO:=aO) a (λ_=>X) x w [] (λd b=>by
  let⟨Sy,S2,@Tq,t,C,f,g⟩:=e d b;exact⟨Sy,S2,t,C,(λi=>by cases i),(λ_=>⟨Tq,f,g⟩)⟩) (by rw[hc];lia)
 rw[NN]at this;exact this
theorem ER{SU Tx:Type}(a:SU->ab)(b:Tx->ab):∀(w:List SU) (SI:List Tx),gL (w.map a) (SI.map b)=(w.zip SI).map λq=>.tup [a q.1,b q.2]
 |[],SI=>by simp[gL]
 |d::w,[]=>by simp[gL]
 |d::w,y::SI=>by simp[gL,ER a b w SI]
def wL{Tx:Type}(x:SU->Tx)(w:List SU)(Q U:Option Int):gy (w.map x) Q U=(gy w Q U).map x:=by
 unfold gy;rw[a9,lA,kG]
end L2
namespace G
open L2
abbrev aI(a:Int):ak:=.im (.int a)
end G
namespace L2
open Spec PyProof.Rows
section
variable{b:aL}
def rl:ab->Option eo
 |.int a=>Z (.inl a)
 |.str d=>Z (.inr d)
 |_=>Y
@[simp] theorem R_(a:Int):rl (.int a)=Z (.inl a):=rfl
@[simp] theorem Sa(d:aD):rl (.str d)=Z (.inr d):=rfl
def Ba:eo->ab
 |.inl a=>.int a
 |.inr d=>.str d
@[simp] theorem R5(a:Int):Ba (.inl a)=.int a:=rfl
@[simp] theorem Sj(d:aD):Ba (.inr d)=.str d:=rfl
def MN{m:ax}{s:ab}{v:aj}{o:eo}(e:cD m s v)(c:rl s=Z o):v=b7 o:=by
 cases s with
 |int a=>cases c;exact e
 |str d=>cases c;exact e
 |_=>cases c
def fv{SS:Type}[DecidableEq SS](SF:List (SS×ab))(o:SS)(s:ab):List (SS×ab):=(
 if (SF.any λa=>decide (a.1=o))=X then SF.map (λa=>if a.1=o then (a.1,s) else a) else SF++[(o,s)])
variable{SS:Type}
def d_.any[DecidableEq SS]{m:ax}{o:SS}{k:List (SS×ab)}{H:List (SS×aj)}(e:d_ m k H):(k.any λa=>decide (a.1=o))=(H.any λa=>decide (a.1=o)):=by
 unfold d_ at e;induction e with
 |nil=>rfl
 |cons u _ b=>rw[l1,l1,b,u.1]
def d_.upd[DecidableEq SS]{m:ax}{o:SS}{s:ab}{v:aj}(l:cD m s v){k:List (SS×ab)}{H:List (SS×aj)}(e:d_ m k H):d_ m (k.map λa=>if a.1=o then (a.1,s) else a) (H.map λa=>if a.1=o then (a.1,v) else a):=by
 unfold d_ at e;induction e with
 |nil=>exact .nil
 |@cons q r _ _ u _ d=>
  rw[cE,cE];refine .cons ?_ d;by_cases c:q.1=o
  ·have b:r.1=o:=u.1.symm.trans c;rw[aJ c,aJ b];exact⟨u.1,l⟩
  ·have b:¬ r.1=o:=λf=>c (u.1.trans f);rw[aM c,aM b];exact u
def Mo{SU Tx:Type}{N:SU->Tx->Prop}{k:List SU}{H:List Tx}{g:SU}{f:Tx}(e:eg N k H)(d:N g f):eg N (k++[g]) (H++[f]):=by
 induction e with
 |nil=>exact .cons d .nil
 |cons u _ a=>exact .cons u a
def d_.put[DecidableEq SS]{m:ax}{o:SS}{s:ab}{v:aj}(l:cD m s v){k:List (SS×ab)}{H:List (SS×aj)}(e:d_ m k H):d_ m (fv k o s) (fk H o v):=by
 unfold fv fk;rw[e.any];split
 ·exact e.upd l
 ·exact Mo e ⟨rfl,l⟩
@[simp] def wc:aA ak:=λB=>Z (.ay [],B)
def Fx{SK:Pos}:cj b (.Dict [] [] SK) wc:=by
 refine ey IQ λA m D ⟨B,N,u,SR,z,ah,d,r⟩ q a=>?_;cases d;have j:cZ m (L2.upd m q<|.ay []):=(cZ.refl m).upd a;have e:br m N m (N++[]):=by rw[cB];exact br.perm ah (List.Perm.refl _)
 exact r _ _ N [q] (z.mono j.tupS λg W n c=>j g n c) ⟨q,[],rfl,eT,.nil,rfl⟩ (e.new j (ep _ _) (λg f=>by rw[cA.mp f];exact a) z.chg)
@[simp] def R4(a b:aA ak):aA ak:=λB=>(a B).bind λq=>(b q.2).bind λr=>match q.1,r.1 with
 |.im o,.im s=>(rl o).map λc=>(.dE [(c,s)],r.2)
 |_,_=>Y
@[simp] def gN(h o s:ak):Option ak:=match h,o,s with
 |.lst w,.im<|.int a,.im s=>(jA w.length a).map λi=>.lst (w.set i s)
 |.dE SF,.im o,.im s=>(rl o).bind λb=>if SF.length<100000 then Z (.dE<|fv SF b s) else Y
 |.ay SF,.im<|.tup o,.im s=>if ab.keys 7 o=X/\SF.length<100000 then Z (.ay<|fv SF o s) else Y
 |_,_,_=>Y
def rK(B:b.A.units+20<b6):uZ b gN:=by
 intro G j A m n a v F H L D E z i l J;let⟨h,o,s,M,Su,@SM,p,hg,q,ah,c,r⟩:=J;unfold gN at c;split at c
 ·exact FZ G j A m n a v F H L D E z i l ⟨_,_,_,M,Su,SM,p,hg,q,ah,c,r⟩
 ·let⟨@Q,N,u⟩:=bS.mp c;split at u
  ·rename_i e;cases u;let⟨g,@SI,rfl,t,C,rfl⟩:=p;let@⟨hd,rfl⟩:=q;have h:gd m g:=⟨_,t,(λ_ c=>by cases c),(λ_ W c=>by cases c)⟩;cases z;have P:=MN hg.1 N;subst P;refine ET B E (nu.k t (by rw[<-C.length];exact wk e)) i l λSr x=>⟨_,x,r _ [g] ?_ (br.chg (.head _) h (ep _ _) λd y=>by simpa using y)⟩;exact⟨g,_,rfl,eT,(d_.put hd C).mono<|cD.kl h,rfl⟩
  ·cases u
 ·split at c
  ·rename_i e;cases c;let⟨g,@SI,rfl,t,C,rfl⟩:=p;let@⟨hd,rfl⟩:=q;have h:gd m g:=⟨_,t,(λ_ c=>by cases c),(λ_ W c=>by cases c)⟩;cases z;let⟨f,@w,rfl,S6,S8⟩:=hg.1;refine ET B E (nu.t t ⟨e.1,f,w,rfl,S6,S8⟩ (by rw[<-C.length];exact wk e.2)) i l λSr x=>⟨_,x,r _ [g] ?_ (br.chg (.head _) h (ep _ _) λd y=>by simpa using y)⟩;exact⟨g,_,rfl,eT,(d_.put hd C).mono<|cD.kl h,rfl⟩
  ·cases c
 ·cases c
end
section
variable{b:aL}
def F1:bP->ak->Option (Nat×ak)
 |.aQ a,s=>Z (a,s)
 |.cf _,_=>Y
@[simp] theorem Si(a:Nat)(s:ak):F1 (.aQ a) s=Z (a,s):=rfl
@[simp] theorem Sf(h s:ak):F1 (.cf h) s=Y:=rfl
def HJ{o:Nat}{a:aD}{i p:Pos}{S1 Tr TF:bu}{R:List bu}{SQ:gE}{SK:Pos}{own:List aD}{SV:List Nat}{fg:da}{M:jG->gg}{TL:jG->ek}{TA:jG->b5}(u:b.N.Nodup)(w:b.N[o]?=Z a)(y:kc b.env.scope a)(z:b.calm=X)(SM:hS b SQ own SV)(U:k4 b S1 Tr fg)(C:∀h,jw (b.fL (fT b own SV) SQ h) S1<|M h)(D:∀h,rB (b.fL (fT b own SV) SQ h) R<|TL h)(F:∀h,bN (b.fL (fT b own SV) SQ h) TF<|TA h)(I:∀d,ma Tr b.env d=pure d:=by intro W;rfl)(J:mZ (.ListComp TF [⟨S1,Tr,R,0⟩] SQ SK) (Z<|.Name a i) p.line b.env=pure X:=by rfl)(L:b.fn a=X\/b.env.scope.names.lookup a=Z .local:=by first|exact .inl rfl|exact .inr rfl|assumption):
  h3 b (.Assign [.Name a i] (.ListComp TF [⟨S1,Tr,R,0⟩] SQ SK) p) (x3 (vC own SV fg M TL TA)<|yO o):=by
 intro G j A m P E e;rw[exec_Assign_Name_used _ _ _ _ J];refine aw (t4<|aw ?_);show wpAny _ b.A (do let _ <-yx (.ListComp TF [⟨S1,Tr,R,0⟩] SQ SK) SQ b.env _ (qQ []) ar (ck Tr b.env) (Z<|ig (.Name a i) b.env)) _ _ j;refine aw (hl (Cc (use:=Z (ig (.Name a i) b.env)) (ga:=λ_ Sr=>oe b G P .next Sr) z SM U C D F I E e λB aO bi Q H S T x s t al q r=>?_) (λ_ Sr am=>aW<|aW am) λ_ W c=>c);show wpAny _ b.A (ig (.Name a i) b.env<|.ref B) _ _ Q;refine Et (EY S u w y (v:=.ref B) rfl (λan ap as=>?_) L);let⟨@g,a1,l⟩:=as;have a2:aO≠g:=by
  rcases l with rfl|l
  ·exact fP s
  ·exact fP (t _ _ l)
 exact⟨H,T.sameBut a1 a2,λSq cv=>⟨_,_,ap.turned (it:=aO) (S5:=an.toks) (λf n bd c=>(cv.2 f bd).trans c) x (fP s) (.inr al) t q,r⟩⟩
def p7{SX:List Nat}{a:Nat}{c:aD}{i f:Pos}{S1 Tr TF:bu}{R:List bu}{SQ:gE}{SK:Pos}{own:List aD}{SV:List Nat}{Q:jW}{y:fp}{cT:aA Bool}{TM:aA ak}(g:b.N.Nodup)(h:b.N[a]?=Z c)(j:kc b.env.scope c)(l:b.calm=X)(SM:hS b SQ own SV)(ah:SV.Nodup)(U:mA b S1 Tr Q)(n:∀e,hv (b.fL (fT b own SV) SQ e) (oA own.length SV.length) S1 y)(o:∀e,sZ (b.fL (fT b own SV) SQ e) R cT)(p:∀e,cj (b.fL (fT b own SV) SQ e) TF TM)(q:a∉SX)(s:∀d,ma Tr b.env d=pure d:=by intro W;rfl)(w:mZ (.ListComp TF [⟨S1,Tr,R,0⟩] SQ SK) (Z<|.Name c i) f.line b.env=pure X:=by rfl)(x:b.fn c=X\/b.env.scope.names.lookup c=Z .local:=by first|exact .inl rfl|exact .inr rfl|assumption):
  iC b SX (.Assign [.Name c i] (.ListComp TF [⟨S1,Tr,R,0⟩] SQ SK) f) (bZ a<|b1 own.length SV Q y cT TM):=by
 refine lP (HJ g h j l SM U n o p s w x) λSv A m D=>?_;let⟨B,N,aT,@SR,z,E,G,r⟩:=D;let⟨@⟨u,Sy⟩,t,C⟩:=bS.mp G;split at C
 ·rename_i H;cases C;refine GS ah ⟨B,N,u,_,z,E,t,λv SD F Su I J L=>?_⟩;let⟨SW,@b0,M,S4⟩:=I.put (a:=a) J H;exact r _ SD SW (dP.set q) M (L.less S4)
 ·cases C
def Ag:ak->ak
 |.lst d=>.im (.aT d)
 |.ay []=>.im .fd
 |s=>s
@[simp] theorem R6(d:List ab):Ag (.lst d)=.im (.aT d):=rfl
@[simp] theorem RX(s:ab):Ag (.im s)=.im s:=rfl
variable{o:Nat}{x:af}{fd:gp}{SJ:List aD}{d:aD}{q SK:Pos}{c:bu}{Sx:List bu}
def KH{F:jF}{TC:cK}{Sv:gk}{k:b5}{I:fb}{J:List ae}{i:List aj}(N:hC b.prog b.w b.K b.az b.base F o x fd SJ TC)(g:eE o b.A)(h:bN b (.Name d q) k)(n:Θ b.K (.ref x)=X)(p:hG b.K fd SJ J)(hd:bW i J)(s:tF F b Sv)(t:h1 b (c::Sx) I)(z:bV (c::Sx) b.env=(ar,ck c b.env)::bV Sx b.env:=by rfl)(B:(f6 SK<|bV Sx b.env).any (·.1)=ar:=by rfl):
  bN b (.Call (.Name d q) (c::Sx) [] SK) (λA m D=>k A m λv SD=>v=.ref x/\xn TC i Sv I A SD D):=by
 intro G j A m D E e;refine rT (bX (h G j A m _ E e) λv C H=>?_);let⟨y,@SD,a,L,M,P⟩:=H;subst M;cases L;refine Bh (h₀:=b.base) a.ok.mod.sl n (bX (t SK G C A SD _ a P) λSO R ⟨Sp,SP,f,u,r⟩=>⟨f.m5,?_⟩) z B;exact Cz N g p hd s f u r
@[simp] def pv(a:Nat)(x:af)(p:Nat)(Ss:c0)(M:aA (List bP)):aA ak:=λB=>match B[a]? with
 |some (Z<|.im<|.fn g)=>if g=x then bq p Ss M B else Y
 |_=>Y
def Nm{a p:Nat}{Ss:c0}{M:aA (List bP)}(N:hC b.prog b.w b.K b.az b.base hE o x fd SJ (jM p Ss))(h:eE o b.A)(i:bN b (.Name d q) (ly a))(j:Θ b.K (.ref x)=X)(k:hG b.K fd SJ [])(f:fM b (c::Sx) M)(n:bV (c::Sx) b.env=(ar,ck c b.env)::bV Sx b.env:=by rfl)(s:(f6 SK<|bV Sx b.env).any (·.1)=ar:=by rfl):
  cj b (.Call (.Name d q) (c::Sx) [] SK) (pv a x p Ss M):=by
 refine ey (KH N h i j k .nil G3 f n s) λA m D y=>?_;let⟨B,E,u,@SR,z,ah,e,r⟩:=y;unfold pv at e;split at e
 ·rename_i g hd;split at e
  ·rename_i f;subst f;let⟨v,F,@SW,t,C,G,H⟩:=z.out hd;exact⟨v,t,C.1,Cp ⟨B,E,u,SR,z,ah,e,r⟩⟩
  ·cases e
 ·cases e
end
end L2
namespace dr
open Spec PyProof.Rows
end dr
namespace L2
open Spec PyProof.Rows
section
variable{b:aL}
theorem bM.rev{m:ax}:∀{J:List ab}{w:List aj},bM m J w->bM m J.reverse w.reverse
 |[],w,e=>by cases (show w=[] from e);rfl
 |s::J,w,e=>by
  let⟨v,@u,rfl,t,C⟩:=e;rw[yS,yS];exact C.rev.app ⟨v,[],rfl,t,rfl⟩
end
variable{SK:Pos}{h g:bu}{TK S9:lg}{cT To Ts:aA bP}{R x:fW}{D:ae->ao->Prop}{f:Bool}{Te:ak}{L v:ae}{y d:aj}{j:ao}{A:a3}{G:List (af×bj)}{s:ab}{m:ax}
theorem EK{e:a5}:∀(p:Nat) {d y:ab}{v:ae},ab.bD p d=X->ab.bD p y=X->dS e d v->dS e y v->d=y
 |p,.aV,y,v,_,aZ,j,b=>by
  cases (show v=.none from j);cases y with
  |aV=>rfl
  |av f=>cases b
  |int i=>let⟨@L,c⟩:=b;cases c
  |str k=>let⟨@L,c⟩:=b;cases c
  |tup J=>let⟨W,W,W,@W,c,W⟩:=b;cases c
  |fn g=>cases p<;>cases aZ
  |aT g=>cases p<;>cases aZ
  |fd=>cases p<;>cases aZ
 |p,.av f,y,v,_,aZ,j,b=>by
  cases (show v=.bool f from j);cases y with
  |aV=>cases b
  |av h=>cases b;rfl
  |int i=>let⟨@L,c⟩:=b;cases c
  |str k=>let⟨@L,c⟩:=b;cases c
  |tup J=>let⟨W,W,W,@W,c,W⟩:=b;cases c
  |fn g=>cases p<;>cases aZ
  |aT g=>cases p<;>cases aZ
  |fd=>cases p<;>cases aZ
 |p,.int a,y,v,_,aZ,j,b=>by
  let⟨@I,rfl⟩:=j;cases y with
  |aV=>cases b
  |av h=>cases b
  |int i=>let⟨@L,c⟩:=b;injection c with c;rw[c]
  |str k=>let⟨@L,c⟩:=b;cases c
  |tup J=>let⟨W,W,W,@W,c,W⟩:=b;cases c
  |fn g=>cases p<;>cases aZ
  |aT g=>cases p<;>cases aZ
  |fd=>cases p<;>cases aZ
 |p,.str a,y,v,_,aZ,j,b=>by
  let⟨@I,rfl⟩:=j;cases y with
  |aV=>cases b
  |av h=>cases b
  |int i=>let⟨@L,c⟩:=b;cases c
  |str k=>let⟨@L,c⟩:=b;injection c with c;rw[c]
  |tup J=>let⟨W,W,W,@W,c,W⟩:=b;cases c
  |fn g=>cases p<;>cases aZ
  |aT g=>cases p<;>cases aZ
  |fd=>cases p<;>cases aZ
 |p+1,.tup J,y,v,q,aZ,j,b=>by
  let⟨g,n,S,@H,rfl,t,C,w,x⟩:=j;cases y with
  |aV=>cases b
  |av h=>cases b
  |int i=>let⟨@L,c⟩:=b;cases c
  |str k=>let⟨@L,c⟩:=b;cases c
  |fn g=>cases aZ
  |aT g=>cases aZ
  |fd=>cases aZ
  |tup Sx=>
   let⟨E,S7,F,@G,c,m,M,l,z⟩:=b;cases c;rw[t]at m;cases m;rw[w]at l;injection l with l _;subst l;have all:∀(J Sx:List ab) (Sp:List ae),ab.du p J=X->ab.du p Sx=X->d0 e J Sp->d0 e Sx Sp->J=Sx:=by
    intro J;induction J with
    |nil=>
     intro Sx Sp W W g f;cases Sx with
     |nil=>rfl
     |cons c Sx=>let⟨W,@W,r,W⟩:=f;rw[show Sp=[] from g]at r;cases r
    |cons s J A=>
     intro Sx Sp S6 S8 g f;let⟨v,@u,rfl,B,D⟩:=g;cases Sx with
     |nil=>cases (show v::u=[] from f)
     |cons c Sx=>
      let⟨N,@Ti,r,dp,di⟩:=f;cases r;rw[ab.du,cX]at S6 S8;rw[EK p S6.1 S8.1 B dp,A Sx u S6.2 S8.2 D di]
   rw[all J Sx _ q aZ x z]
 |0,.tup _,_,_,o,_,_,_=>by cases o
 |p,.fn _,_,_,o,_,_,_=>by cases p<;>cases o
 |p,.aT _,_,_,o,_,_,_=>by cases p<;>cases o
 |p,.fd,_,_,o,_,_,_=>by cases p<;>cases o
open Classical in
def nK(e:a5)(s:ab)(v:ae):Bool:=(if z:∃d,ab.bD 8 d=X/\dS e d v then cy z.choose s else ar)
def r7{e:a5}{d:ab}(o:ab.bD 8 d=X)(a:dS e d v):nK e s v=cy d s:=by
 unfold nK;have b:∃d,ab.bD 8 d=X/\dS e d v:=⟨d,o,a⟩;rw[dif_pos b,EK 8 b.choose_spec.1 o b.choose_spec.2 a]
theorem ra{e:a5}{s:ab}:∀{J:List ab}{Sp:List ae},ab.du 8 J=X->d0 e J Sp->Sp.any (nK e s)=J.any λd=>cy d s
 |[],Sp,_,c=>by rw[show Sp=[] from c];rfl
 |d::J,Sp,o,c=>by
  let⟨v,@u,rfl,t,C⟩:=c;rw[ab.du,cX]at o;rw[l1,l1,r7 o.1 t,ra o.2 C]
theorem rz{e:a5}:∀{J:List ab}{Sp:List ae}{v:ae},ab.du 8 J=X->d0 e J Sp->v∈Sp->∃d,ab.bD 8 d=X/\dS e d v
 |[],Sp,v,_,c,H=>by rw[show Sp=[] from c]at H;cases H
 |d::J,Sp,v,o,c,H=>by
  let⟨L,@u,rfl,t,C⟩:=c;rw[ab.du,cX]at o;rcases cq.mp H with rfl|H
  ·exact⟨d,o.1,t⟩
  ·exact rz o.2 C H
section
variable{b:aL}
def eK(s:ab):ak->Option Bool
 |.im (.tup J)=>if (ab.bD 8 s&&ab.du 8 J)=X then Z (J.any λd=>cy d s) else Y
 |.lst J=>if (ab.bD 8 s&&ab.du 8 J)=X then Z (J.any λd=>cy d s) else Y
 |.ay SF=>match s with
  |.tup o=>if ab.keys 7 o=X then Z (d8 SF o).isSome else Y
  |_=>Y
 |.dE SF=>match s with
  |.int a=>Z (d8 SF<|.inl a).isSome
  |.str d=>Z (d8 SF<|.inr d).isSome
  |_=>Y
 |_=>Y
@[simp] theorem Lx(s:ab)(J:List ab):eK s (.im<|.tup J)=if (ab.bD 8 s&&ab.du 8 J)=X then Z (J.any λd=>cy d s) else Y:=rfl
@[simp] theorem Ra(s:ab)(J:List ab):eK s (.lst J)=if (ab.bD 8 s&&ab.du 8 J)=X then Z (J.any λd=>cy d s) else Y:=rfl
@[simp] theorem wQ(o:List ab)(SF:List (List ab×ab)):eK (.tup o) (.ay SF)=if ab.keys 7 o=X then Z (d8 SF o).isSome else Y:=rfl
@[simp] def eG:fW:=λg f=>match g with
 |.im s=>(eK s f).map λu=>.im (.av u)
 |_=>Y
@[simp] def eY:fW:=λg f=>match g with
 |.im s=>(eK s f).map λu=>.im (.av<|!u)
 |_=>Y
def oy{SS:Type}[DecidableEq SS]{m:ax}{o:SS}{SF:List (SS×ab)}{i:List (SS×aj)}(e:d_ m SF i):(hW i o).isSome=(d8 SF o).isSome:=by
 cases c:d8 SF o with
 |none=>rw[(oH e).2 c];rfl
 |some s=>let⟨@v,t,W⟩:=(oH e).1 s c;rw[t];rfl
def HP(F:b.A.units+20<b6)(E:aH b G A m j)(h:cc d v)(n:cc y L)(p:cD m s d)(u:e5 m Te y)(c:eK s Te=Z f)(r:∀Sr,aH b G A m Sr->D (.bool f) Sr):wpAny (aS b.prog b.w) b.A (d9 .In v L) D b.cU j:=by
 unfold eK at c;split at c
 ·rename_i J;split at c
  ·rename_i e;cases c;rw[cX]at e;let⟨g,@w,rfl,t,C⟩:=u.i;cases n;let⟨@SG,M,q,W⟩:=E.tuple (cu.of t);have x:=C.fh E.aY M;refine SeqAt.in_tupleAt (nK j.heap s) (show j.heap.IsTuple g SG.toArray from q) (λl H=>?_) ?_
   ·let⟨@N,z,B⟩:=rz e.2 x ⇑H;rw[r7 z B];exact iz 8 z e.1 (by show b.A.units+1+8+1<b6;lia) B (p.fh E.aY h)
   ·rw[um,ra e.2 x];exact r j E
  ·cases c
 ·rename_i J;split at c
  ·rename_i e;cases c;rw[cX]at e;let⟨W,g,@w,rfl,t,C,W⟩:=u;cases n;let⟨@SG,q,x,W⟩:=oV E t C;refine SeqAt.in_listAt (nK j.heap s) q (λl H=>?_) ?_
   ·let⟨@N,z,B⟩:=rz e.2 x ⇑H;rw[r7 z B];exact iz 8 z e.1 (by show b.A.units+1+8+1<b6;lia) B (p.fh E.aY h)
   ·rw[um,ra e.2 x];exact r j E
  ·cases c
 ·rename_i SF;split at c
  ·rename_i o;split at c
   ·rename_i P;cases c;let⟨W,g,@i,rfl,t,C,W⟩:=u;cases n;let⟨f,@SI,rfl,Q,R⟩:=p;rw[<-oy C]at r;exact y4 F E (gz.t t ⟨P,f,SI,rfl,Q,R⟩) h r
   ·cases c
  ·cases c
 ·rename_i SF;split at c
  ·rename_i a;cases c;let⟨W,g,@i,rfl,t,C,W⟩:=u;cases n;rw[<-oy C]at r;cases (show d=b7 (.inl a) from p);exact y4 F E (gz.k t) h r
  ·rename_i a;cases c;let⟨W,g,@i,rfl,t,C,W⟩:=u;cases n;rw[<-oy C]at r;cases (show d=b7 (.inr a) from p);exact y4 F E (gz.k t) h r
  ·cases c
 ·cases c
def hL(e:b.A.units+20<b6):eW b (d9 .In) eG:=by
 intro G j A m d y v L D E g h k;let⟨Td,Te,@s,l,n,c,r⟩:=k;unfold eG at c;split at c
 ·let⟨@f,o,p⟩:=cJ.mp c;cases p;exact HP e E g h l.i n o λSr q=>⟨.av f,m,q,rfl,cb.i r rfl⟩
 ·cases c
def Qn(F:b.A.units+20<b6)(E:aH b G A m j)(h:cc d v)(n:cc y L)(p:cD m s d)(u:e5 m Te y)(c:eK s Te=Z f)(r:∀Sr,aH b G A m Sr->D (.bool<|!f) Sr):wpAny (aS b.prog b.w) b.A (d9 .NotIn v L) D b.cU j:=by
 unfold eK at c;split at c
 ·rename_i J;split at c
  ·rename_i e;cases c;rw[cX]at e;let⟨g,@w,rfl,t,C⟩:=u.i;cases n;let⟨@SG,M,q,W⟩:=E.tuple (cu.of t);have x:=C.fh E.aY M;refine SeqAt.notIn_tupleAt (nK j.heap s) (show j.heap.IsTuple g SG.toArray from q) (λl H=>?_) ?_
   ·let⟨@N,z,B⟩:=rz e.2 x ⇑H;rw[r7 z B];exact iz 8 z e.1 (by show b.A.units+1+8+1<b6;lia) B (p.fh E.aY h)
   ·rw[um,ra e.2 x];exact r j E
  ·cases c
 ·rename_i J;split at c
  ·rename_i e;cases c;rw[cX]at e;let⟨W,g,@w,rfl,t,C,W⟩:=u;cases n;let⟨@SG,q,x,W⟩:=oV E t C;refine SeqAt.notIn_listAt (nK j.heap s) q (λl H=>?_) ?_
   ·let⟨@N,z,B⟩:=rz e.2 x ⇑H;rw[r7 z B];exact iz 8 z e.1 (by show b.A.units+1+8+1<b6;lia) B (p.fh E.aY h)
   ·rw[um,ra e.2 x];exact r j E
  ·cases c
 ·rename_i SF;split at c
  ·rename_i o;split at c
   ·rename_i P;cases c;let⟨W,g,@i,rfl,t,C,W⟩:=u;cases n;let⟨f,@SI,rfl,Q,R⟩:=p;rw[<-oy C]at r;exact wi F E (gz.t t ⟨P,f,SI,rfl,Q,R⟩) h r
   ·cases c
  ·cases c
 ·rename_i SF;split at c
  ·rename_i a;cases c;let⟨W,g,@i,rfl,t,C,W⟩:=u;cases n;rw[<-oy C]at r;cases (show d=b7 (.inl a) from p);exact wi F E (gz.k t) h r
  ·rename_i a;cases c;let⟨W,g,@i,rfl,t,C,W⟩:=u;cases n;rw[<-oy C]at r;cases (show d=b7 (.inr a) from p);exact wi F E (gz.k t) h r
  ·cases c
 ·cases c
def jZ(e:b.A.units+20<b6):eW b (d9 .NotIn) eY:=by
 intro G j A m d y v L D E g h k;let⟨Td,Te,@s,l,n,c,r⟩:=k;unfold eY at c;split at c
 ·let⟨@f,o,p⟩:=cJ.mp c;cases p;exact Qn e E g h l.i n o λSr q=>⟨.av<|!f,m,q,rfl,cb.i r rfl⟩
 ·cases c
@[simp] def h5(x R:fW)(Ts To cT:aA bP):aA ak:=λB=>(Ts B).bind λq=>(To q.2).bind λr=>(dW r.2 q.1).bind λTd=>(dW r.2 r.1).bind λTe=>(x Td Te).bind λs=>(nT s).bind λo=>
 if o=X then (cT r.2).bind λu=>(dW u.2 r.1).bind λa=>(dW u.2 u.1).bind λb=>(R a b).bind λc=>(nT c).map λf=>(.im<|.av f,u.2) else Z (.im<|.av ar,r.2)
def Bv{D:cI}(e:fz (h5 x R Ts To cT) A m D):
  zb (λd y m D=>∃Td Te s,e5 m Td d/\e5 m Te y/\x Td Te=Z s/\cb m s D) (λd y m D=>∃Td Te s,e5 m Td d/\e5 m Te y/\R Td Te=Z s/\cb m s D) (mM Ts) (mM To) (mM cT) A m D:=by
 let⟨B,N,u,@SR,z,ah,a,r⟩:=e;let⟨@⟨E,Sy⟩,t,a⟩:=bS.mp a;let⟨@⟨Tn,S2⟩,C,a⟩:=bS.mp a;let⟨@Td,P,a⟩:=bS.mp a;let⟨@Te,Q,a⟩:=bS.mp a;let⟨@s,S,a⟩:=bS.mp a;let⟨@o,T,i⟩:=bS.mp a;have hd:=sb T;subst hd;refine⟨B,N,E,Sy,z,ah,t,λd SD F U al I w=>⟨Sy,F,Tn,S2,al,(df.mp w.ah).1,C,λy SP SW b0 j J k=>?_⟩⟩;have am:iw SP A E d U:=I.mono k.tup λg b n c=>k.keep g n c λe=>(df.mp w.ah).2.2 g e g b rfl;refine⟨Td,Te,_,am.read j P,J.read j Q,S,λv L an h ap db ds=>?_⟩;let@⟨rfl,rfl⟩:=(show v=.av o/\an=[] from ap);refine⟨o,rfl,?_⟩;have M:=w.trans k I.chg;rw[bC]at M;have p:=M.new h jb (λg b=>nomatch b) j.chg;have O:bE L S2 A SW:=j.mono h.tupS λg W n c=>h g n c;cases o with
 |false=>
  rw[aM dA]at i ⊢;cases i;exact r _ L SW [] O ⟨rfl,rfl⟩ p
 |true=>
  rw[aJ rfl]at i ⊢;let⟨@⟨Tf,Tq⟩,as,S6⟩:=bS.mp i;let⟨@a1,a2,S8⟩:=bS.mp S6;let⟨@bd,be,bi⟩:=bS.mp S8;let⟨@dL,bm,bn⟩:=bS.mp bi;let⟨@f,bs,bv⟩:=cJ.mp bn;cases bv;have ca:=sb bs;subst ca;rw[cB]at p;refine⟨S2,SW,Tf,Tq,O,p.ah,as,λl cd ce eq q ch G=>?_⟩;have ci:=df.mp k.ah;have cl:iw cd A Tn y b0:=(J.mono h.tupS λg W n c=>h g n c).mono G.tup λg b n c=>G.keep g n c λe=>ci.2.2 g e g b rfl;refine⟨a1,bd,_,cl.read q a2,ch.read q be,bm,λv co cr H cs ev ex=>?_⟩;let@⟨rfl,rfl⟩:=(show v=.av f/\cr=[] from cs);exact r _ co ce [] (q.mono H.tupS λg W n c=>H g n c) ⟨rfl,rfl⟩ ((p.seq G).new H jb (λg b=>nomatch b) q.chg)
variable{f:bu}
def BY(a:eW b (d9 S9) x)(c:eW b (d9 TK) R)(d:dI b g Ts)(i:dI b f To)(j:dI b h cT)(k:uF [S9,TK] [f,h]=ar:=by with_unfolding_all rfl):cj b (.Compare g [S9,TK] [f,h] SK) (h5 x R Ts To cT):=
 ey (HI a c d i j k) λ_ W W e=>Bv e
def D1(c:eW b (d9 S9) x)(d:eW b (d9 TK) R)(e:dI b g Ts)(i:dI b f To)(k:dI b h cT)(l:uF [S9,TK] [f,h]=ar:=by with_unfolding_all rfl):ix b (.Compare g [S9,TK] [f,h] SK) (a8<|h5 x R Ts To cT):=by
 refine vi (Ky c d e i k l) λA m D n=>?_;let⟨B,N,o,@SR,z,ah,p,r⟩:=n;refine Bv ⟨B,N,.im<|.av o,SR,z,ah,?_,λv T S3 Su s a j=>⟨o,a.1,r T S3 s (by rw[a.2,cB]at j;exact j)⟩⟩;let⟨@q,t,C⟩:=bS.mp p;let⟨@y,u,w⟩:=cJ.mp C;cases w;rw[t,<-sb u]
end
mutual
def bx:ab->ab->Bool
 |.int a,.int i=>decide (a<i)
 |.tup g,.tup f=>fY g f
 |_,_=>ar
def fY:List ab->List ab->Bool
 |[],[]=>ar
 |[],_::_=>X
 |_::_,[]=>ar
 |g::u,f::I=>if ab.beq g f=X then fY u I else bx g f
end
mutual
def eB:Nat->ab->ab->Bool
 |_,.int _,.int _=>X
 |p+1,.tup g,.tup f=>fw p g f
 |_,_,_=>ar
def fw:Nat->List ab->List ab->Bool
 |_,[],[]=>X
 |p,g::u,f::I=>eB p g f&&fw p u I
 |p,[],f::I=>ab.du p (f::I)
 |p,g::u,[]=>ab.du p (g::u)
end
mutual
theorem ot:∀{p:Nat}{g f:ab},eB p g f=X->ab.bD p g=X/\ab.bD p f=X/\cy g f=ab.beq g f
 |p,.int a,.int i,_=>by
  refine⟨by cases p<;>rfl,by cases p<;>rfl,?_⟩;rw[cy,ab.beq];by_cases e:a=i<;>simp[e]
 |p+1,.tup g,.tup f,e=>by
  rw[eB]at e;let@⟨t,C,b⟩:=Ak e;exact⟨t,C,by rw[cy,ab.beq];exact b⟩
theorem Ak:∀{p:Nat}{g f:List ab},fw p g f=X->ab.du p g=X/\ab.du p f=X/\fS g f=ab.lj g f
 |p,[],[],_=>⟨by cases p<;>rfl,by cases p<;>rfl,rfl⟩
 |p,[],f::I,e=>⟨by cases p<;>rfl,e,rfl⟩
 |p,g::u,[],e=>⟨e,by cases p<;>rfl,rfl⟩
 |p,g::u,f::I,e=>by
  rw[fw,cX]at e;let@⟨t,C,a⟩:=ot e.1;let@⟨b,c,d⟩:=Ak e.2;exact⟨by rw[ab.du,t,b];rfl,by rw[ab.du,C,c];rfl,by rw[fS,ab.lj,a,d]⟩
end
def nq{g f:ab}(e:¬ g=f):ab.beq g f=ar:=by
 cases c:ab.beq g f with
 |false=>rfl
 |true=>exact absurd ((ab.beq_iff g f).mp c) e
mutual
theorem uJ:∀g:ab,bx g g=ar
 |.int a=>by simp[bx]
 |.tup g=>by rw[bx];exact DX g
 |.aV=>rfl
 |.av _=>rfl
 |.str _=>rfl
 |.fn _=>rfl
 |.aT _=>rfl
 |.fd=>rfl
theorem DX:∀g:List ab,fY g g=ar
 |[]=>rfl
 |g::u=>by rw[fY,aJ<|(ab.beq_iff g g).mpr rfl];exact DX u
end
mutual
theorem rr:∀{p:Nat}{g f:ab},eB p g f=X->g≠f->bx g f=!(bx f g)
 |p,.int a,.int i,_,e=>by
  have:a≠i:=λc=>e (by rw[c]);rw[bx,bx];rcases Int.lt_or_gt_of_ne this with M|M
  ·simp[M];lia
  ·simp[M];lia
 |p+1,.tup g,.tup f,e,c=>by
  rw[eB]at e;rw[bx,bx];exact AH e λb=>c (by rw[b])
theorem AH:∀{p:Nat}{g f:List ab},fw p g f=X->g≠f->fY g f=!(fY f g)
 |p,[],[],_,e=>absurd rfl e
 |p,[],f::I,_,_=>rfl
 |p,g::u,[],_,_=>rfl
 |p,g::u,f::I,e,c=>by
  rw[fw,cX]at e;rw[fY,fY];by_cases a:g=f
  ·subst a;rw[aJ ((ab.beq_iff g g).mpr rfl),aJ<|(ab.beq_iff g g).mpr rfl];exact AH e.2 λl=>c (by rw[l])
  ·rw[nq a,nq<|λl=>a l.symm,aM dA,aM dA];exact rr e.1 a
end
mutual
theorem pn:∀{p:Nat}{g f h:ab},eB p g f=X->eB p f h=X->bx g f=X->bx f h=X->bx g h=X
 |p,.int a,.int i,.int o,_,_,t,C=>by
  rw[bx]at t C ⊢;have:=hz t;have:=hz C;exact dw (by omega)
 |p+1,.tup g,.tup f,.tup h,aX,bp,t,C=>by
  rw[eB]at aX bp;rw[bx]at t C ⊢;exact Fj aX bp t C
theorem Fj:∀{p:Nat}{g f h:List ab},fw p g f=X->fw p f h=X->fY g f=X->fY f h=X->fY g h=X
 |p,[],_,_::_,_,_,_,_=>rfl
 |p,[],[],[],_,_,e,_=>e
 |p,_::_,[],_,_,_,e,_=>by cases e
 |p,_,_::_,[],_,_,_,e=>by cases e
 |p,g::u,f::I,h::L,aX,bp,t,C=>by
  rw[fw,cX]at aX bp;rw[fY]at t C ⊢;by_cases b:g=f
  ·subst b;rw[aJ ((ab.beq_iff g g).mpr rfl)]at t;by_cases a:g=h
   ·subst a;rw[aJ ((ab.beq_iff g g).mpr rfl)]at C ⊢;exact Fj aX.2 bp.2 t C
   ·rw[nq a,aM dA]at C ⊢;exact C
  ·rw[nq b,aM dA]at t;by_cases a:f=h
   ·subst a;rw[nq b,aM dA];exact t
   ·rw[nq a,aM dA]at C;have c:=pn aX.1 bp.1 t C;have d:¬ g=h:=λl=>by
     subst l;have:=rr bp.1 a;rw[t,C]at this;cases this
    rw[nq d,aM dA];exact c
end
def yc(O:bw)(j:ao)(y d:ae)(o:Bool):Prop:=(∀(Sz:bA) (l:bk) (Sv:ae->ao->Prop) (D:ae->ao->Prop),D (.bool o) j->wpAny (aS Sz l) O (nh .Lt y d) D Sv j)
def hF(x:Bool):List (Bool×Bool)->Bool
 |[]=>x
 | (c,o)::u=>if c=X then hF x u else o
section
open PySem.SeqAt
open PySem.AutoSeq1 (wpAny_loadPart')
open PySem.MeetsSeq PySem.MeetsSeq2 PySem.MeetsSeq3
def Rk(k f:af)(S b:Array ae)(p A:Nat)(B D:Option af)(aQ E:Array (Option ae))(SJ:List (Bool×Bool))(R:SJ.length=min S.size b.size):
  Meets (a_.«tuple.__lt__» ⟨[.ref k,.ref f],[]⟩)
   (λO Su j=>j.heap.get? k=Z {cls:=.type "tuple",dict:=B,data:=.seq S p,slots:=aQ}/\j.heap.get? f=Z {cls:=.type "tuple",dict:=D,data:=.seq b A,slots:=E}/\
    (∀i (t:i<S.size) (C:i<b.size) (q:i<SJ.length),EqAt O.in1 j S[i] b[i] (SJ[i]).1/\((SJ[i]).1=ar->yc O.in1 j S[i] b[i] (SJ[i]).2))/\
    Su (.ok<|.ret<|.bool<|hF (decide (S.size<b.size)) SJ) j):=
 .of_wp λSz l O Su j e=>by
  let⟨m,M,s,Tb,P⟩:=j;let@⟨F,G,H,e⟩:=e;have T:=x_;have u:(S.toList.zip b.toList).length=min S.size b.size:=by simp
  wp_walk using wpAny_loadPart' F,wpAny_loadPart' G,nz _ (λdh f Sr=>f.1=Y/\Sr=⟨m,M,s,Tb,P⟩/\∃a,dh=(S.toList.zip b.toList).drop a/\
   Su (.ok<|.ret<|.bool<|hF (decide (S.size<b.size))<|SJ.drop a) ⟨m,M,s,Tb,P⟩) _
  case turn=>
   rintro⟨y,d⟩ dh f Sr ⟨r,rfl,a,g,h⟩;have v:a<(S.toList.zip b.toList).length:=by
    rcases jf a (S.toList.zip b.toList).length with Sq|Sq
    ·exact Sq
    ·rw[nv Sq]at g;cases g
   have U:a<min S.size b.size:=u ▸ v;have t:a<S.size:=⋯
   have C:a<b.size:=⋯
   have q:a<SJ.length:=⋯
   rw[jz v]at g;injection g with w I;have J:y=S[a]:=by have:=congrArg Prod.fst w;simpa using this
   have L:d=b[a]:=by have:=congrArg Prod.snd w;simpa using this
   subst J L;rw[jz q]at h;let@⟨x,z⟩:=H a t C q;generalize SJ[a]=N at h x z;let⟨c,o⟩:=N;refine aw (x Sz l _ _ ?_);cases c with
   |true=>
    have n:Su (.ok<|.ret<|.bool<|hF (decide (S.size<b.size))<|SJ.drop<|a+1) ⟨m,M,s,Tb,P⟩:=h
    wp_walk
    exact⟨rfl,rfl,a+1,I,n⟩
   |false=>
    have n:Su (.ok<|.ret<|.bool o) ⟨m,M,s,Tb,P⟩:=h;have Q:=z rfl Sz l
    wp_walk using Q
    exact⟨_,rfl,by simpa using n⟩
  case fin=>
   rintro⟨dp,di⟩ Sr ⟨r,rfl,a,g,h⟩;simp only at r;subst r;have al:min S.size b.size<=a:=by
    rcases jf a (S.toList.zip b.toList).length with Sq|Sq
    ·rw[jz Sq]at g;cases g
    ·exact u ▸ Sq
   rw[nv ⋯]at h;have n:Su (.ok<|.ret<|.bool<|decide (S.size<b.size)) ⟨m,M,s,Tb,P⟩:=h
   wp_walk
   exact⟨_,rfl,by simpa [a_.Tuple.tupleCompareSizes] using n⟩
  case h=>
   exact⟨rfl,rfl,0,rfl,by simpa using e⟩
end
def kp(J Sx:List ab):List (Bool×Bool):=((J.zip Sx).map λq=>(cy q.1 q.2,bx q.1 q.2))
theorem E2:∀{p:Nat}{J Sx:List ab},fw p J Sx=X->hF (decide (J.length<Sx.length)) (kp J Sx)=fY J Sx
 |_,[],[],_=>rfl
 |p,g::u,f::I,e=>by
  rw[fw,cX]at e;show (if cy g f=X then hF (decide (u.length+1<I.length+1)) (kp u I) else bx g f)=fY (g::u) (f::I);rw[fY,(ot e.1).2.2,<-E2 e.2,pb.mpr wW]
 |_,[],_::_,_=>rfl
 |_,_::_,[],_=>rfl
theorem vY{p:Nat}:∀{J Sx:List ab}{i:Nat}{g f:ab},fw p J Sx=X->J[i]?=Z g->Sx[i]?=Z f->eB p g f=X
 |[],Sx,i,g,f,_,e,_=>by simp at e
 |s::J,[],i,g,f,_,_,e=>by simp at e
 |s::J,c::Sx,0,g,f,e,t,C=>by
  rw[fw,cX]at e;cases t;cases C;exact e.1
 |s::J,c::Sx,i+1,g,f,e,t,C=>by
  rw[fw,cX]at e;exact vY (i:=i) e.2 ⇑t ⇑C
def Ej{O:bw}{a i:Int}(b:dS j.heap (.int a) L)(c:dS j.heap (.int i) v):yc O j L v (bx (.int a)<|.int i):=by
 let⟨@I,rfl⟩:=b;let⟨@S5,rfl⟩:=c;intro Sz l Sv D r;rw[bx]at r;exact dr.Rf O j a I i S5 Sz l Sv D r
def rY:∀{p:Nat}{d y:ab},eB p d y=X->(∃a i,d=.int a/\y=.int i)\/∃H g f,p=H+1/\d=.tup g/\y=.tup f/\fw H g f=X:=by
 intro p d y e;unfold eB at e;split at e
 ·exact .inl ⟨_,_,rfl,rfl⟩
 ·exact .inr ⟨_,_,_,rfl,rfl,rfl,e⟩
 ·cases e
def x7(p:Nat):∀{O:bw}{d y:ab}{L v:ae},eB p d y=X->O.units+p+2<b6->dS j.heap d L->dS j.heap y v->yc O j L v (bx d y):=by
 induction p with
 |zero=>
  intro O d y L v e G b h;rcases rY e with ⟨a,i,rfl,rfl⟩|⟨H,_,_,c,_⟩
  ·exact Ej b h
  ·cases c
 |succ p I=>
  intro O d y L v e G b h;rcases rY e with ⟨a,i,rfl,rfl⟩|⟨H,J,Sx,c,rfl,rfl,e⟩
  ·exact Ej b h
  cases c;let⟨g,n,SG,@H,rfl,t,C,k,m⟩:=b;let⟨f,S7,B,@M,rfl,o,q,s,u⟩:=h;let⟨cls,P,data,aQ⟩:=n;let⟨an,Q,ap,R⟩:=S7;simp only at C k q s;subst C k q s;have aX:J.length=SG.size:=by rw[m.length,fy]
  have bp:Sx.length=B.size:=by rw[u.length,fy]
  intro Sz l Sv D r;rw[bx,<-E2 e,aX,bp]at r;have S:(kp J Sx).length=min SG.size B.size:=by rw[kp,a9,oJ,aX,bp]
  refine DP (op:=.Lt) ⟨_,t,rfl⟩ ⟨_,o,rfl⟩ PySem.F.slot_tuple_lt PySem.F.entry_tuple_lt (PySem.F.args_tuple_lt_2 _ _) (Rk g f SG B H M P Q aQ R (kp J Sx) S)
   ⟨t,o,λi T U al=>?_,show ae.bool (hF (decide (SG.size<B.size))<|kp J Sx)≠ae.notImplemented/\D (.bool<|hF (decide (SG.size<B.size))<|kp J Sx) j from ⟨(λd=>nomatch d),r⟩⟩ ⋯;let⟨@Td,w,x⟩:=m.get (i:=i) (v:=SG[i]) (by rw[gU];simp[T]);let⟨@Te,z,A⟩:=u.get (i:=i) (v:=B[i]) (by rw[gU];simp[U]);have lk:=vY e w z;have E:=ot lk;have am:(kp J Sx)[i]=(cy Td Te,bx Td Te):=by
   have:(kp J Sx)[i]?=Z (cy Td Te,bx Td Te):=by
    rw[kp,gq,(Du (z:=(Td,Te))).mpr ⟨w,z⟩];rfl
   rw[e4 al]at this;exact Option.some.inj this
  rw[am];exact⟨iz p E.1 E.2.1 (by show O.units+1+p+1<b6;lia) x A,λ_=>I lk (by show O.units+1+p+2<b6;lia) x A⟩
end L2
namespace L2
open Spec PyProof.Rows PySem.W
variable{SG:List ae}{J:List ab}
theorem yN{SU:Type}{q r:SU->Bool}:∀{k:List SU},(∀d∈k,q d=X->r d=X)->(∃d∈k,r d=X/\q d=ar)->k.countP q<k.countP r
 |[],_,e=>by let⟨@d,a,W⟩:=e;cases a
 |g::k,e,⟨d,a,t,C⟩=>by
  rw[CA,CA];have le:k.countP q<=k.countP r:=List.countP_mono_left λy b=>e y (.tail _ b);rcases cq.mp a with rfl|a
  ·rw[t,C];simp;omega
  ·have:=yN (λy b=>e y<|.tail _ b) ⟨d,a,t,C⟩;have c:=e g (.head _);cases f:q g<;>cases h:r g<;>rw[f,h]at c<;>simp at c ⊢<;>omega
structure nE(J:List ab):Prop where
 dD:J.length<=1000
 kd:∀g∈J,∀f∈J,eB 6 g f=X
structure yw(J:List ab):Prop where
 dD:J.length<=1000
 kd:∀g∈J,∀f∈J,eB 6 g f=X
 ah:J.Nodup
def yw.w{J:List ab}(n:yw J):nE J:=⟨n.dD,n.kd⟩
def o8(J:List ab)(d:ab):Nat:=(J.countP λs=>bx s d)
def F7(n:nE J){d y:ab}(a:d∈J)(b:y∈J)(e:bx d y=X):o8 J d<o8 J y:=
 yN (λf g c=>pn (n.kd f g d a) (n.kd d a y b) c e) ⟨d,a,e,uJ d⟩
def DK(n:nE J){d y:ab}(a:d∈J)(b:y∈J):decide ((o8 J d:Int)<(o8 J y:Int))=bx d y:=by
 cases c:bx d y with
 |true=>exact dw (by have:=F7 n a b c;lia)
 |false=>
  refine dm λf=>?_;by_cases e:d=y
  ·subst e;lia
  ·have I:=rr (n.kd d a y b) e;rw[c]at I;have S5:bx y d=X:=by cases r:bx y d<;>rw[r]at I<;>simp at I ⊢
   have:=F7 n b a S5;lia
def o9(J:List ab)(a:Nat):Int:=(o8 J (J.getD a .aV))
def vf{a:Nat}(e:a<J.length):J.getD a .aV∈J:=by
 rw[cN,e4 e];exact Dh e
def GJ(n:nE J){q:Array Nat}(b:c4 J.length q)(up:i0 (o9 J) q J.length):(q.toList.map λa=>J.getD a .aV).Pairwise (λg f=>bx f g=ar):=by
 rw[pe];intro a i U d m;have e:=b.size;have k:a<J.length:=by simpa [e] using U
 have h:i<J.length:=by simpa [e] using d
 have le:=up a i ⋯ h;have M:∀o (j:o<(q.toList.map λa=>J.getD a .aV).length),(q.toList.map λa=>J.getD a .aV)[o]=J.getD (q.getD o 0) .aV:=λo j=>by
  have l:o<q.size:=by simpa using j
  rw[sC,Fm];simp[Array.getD,l]
 rw[M a U,M i d];rw[<-DK n (vf<|b.lt h) (vf<|b.lt k)];refine dm ?_;have c:∀o,(o8 J (J.getD (q.getD o 0) .aV):Int)=ba (o9 J) q o:=λ_=>rfl;rw[c a,c i];lia
theorem uX(d:ab):∀k:List ab,(ki bx d k).Perm (d::k)
 |[]=>List.Perm.refl _
 |y::u=>by
  rw[ki];split
  ·exact List.Perm.refl _
  ·exact (List.Perm.cons y<|uX d u).trans (List.Perm.swap d y u)
theorem jJ:∀k:List ab,(ia bx k).Perm k
 |[]=>List.Perm.refl _
 |d::u=>(uX d _).trans (List.Perm.cons d<|jJ u)
theorem F6{d:ab}:∀{k:List ab},k.Pairwise (λg f=>bx g f=X)->(∀y∈k,d≠y)->(∀g∈d::k,∀f∈d::k,eB 6 g f=X)->(ki bx d k).Pairwise (λg f=>bx g f=X)
 |[],_,_,_=>ep _ _
 |y::u,e,p,lk=>by
  have Sq:=hQ.mp e;rw[ki];split
  ·rename_i c;refine hQ.mpr ⟨λb a=>?_,e⟩;rcases cq.mp a with rfl|a
   ·exact c
   ·exact pn (lk d (.head _) y<|.tail _<|.head _) (lk y (.tail _<|.head _) b<|.tail _<|.tail _ a) c (Sq.1 b a)
  ·rename_i c;refine hQ.mpr ⟨λb a=>?_,F6 Sq.2 (λb a=>p b<|.tail _ a) λg h f i=>lk g ?_ f ?_⟩
   ·rcases cq.mp ((uX d u).mem_iff.mp a) with rfl|a
    ·have I:=rr (lk b (.head _) y<|.tail _<|.head _) (p y<|.head _);cases r:bx y b with
     |true=>rfl
     |false=>rw[r]at I;exact absurd I c
    ·exact Sq.1 b a
   ·rcases cq.mp h with rfl|h
    ·exact .head _
    ·exact .tail _ (.tail _ h)
   ·rcases cq.mp i with rfl|i
    ·exact .head _
    ·exact .tail _ (.tail _ i)
theorem tK:∀{k:List ab},k.Nodup->(∀g∈k,∀f∈k,eB 6 g f=X)->(ia bx k).Pairwise (λg f=>bx g f=X)
 |[],_,_=>.nil
 |d::u,ah,lk=>by
  have e:=gV.mp ah;refine F6 (tK e.2 λg a f b=>lk g (.tail _ a) f<|.tail _ b) (λy h c=>e.1 (by rw[c];exact (jJ u).mem_iff.mp h)) λg a f b=>lk g ?_ f ?_
  ·rcases cq.mp a with rfl|a
   ·exact .head _
   ·exact .tail _ ((jJ u).mem_iff.mp a)
  ·rcases cq.mp b with rfl|b
   ·exact .head _
   ·exact .tail _ ((jJ u).mem_iff.mp b)
theorem Gb{d:ab}:∀{k:List ab},k.Pairwise (λg f=>bx f g=ar)->(∀g∈d::k,∀f∈d::k,eB 6 g f=X)->(ki bx d k).Pairwise (λg f=>bx f g=ar)
 |[],_,_=>ep _ _
 |y::u,e,lk=>by
  have Sq:=hQ.mp e;unfold ki;split
  ·rename_i c;refine hQ.mpr ⟨λb a=>?_,e⟩;cases r:bx b d with
   |false=>rfl
   |true=>
    have I:=pn (lk b (.tail _ a) d<|.head _) (lk d (.head _) y<|.tail _<|.head _) r c;rcases cq.mp a with rfl|a
    ·rw[uJ]at I;cases I
    ·rw[Sq.1 b a]at I;cases I
  ·rename_i c;refine hQ.mpr ⟨λb a=>?_,Gb Sq.2 λg h f i=>lk g ?_ f ?_⟩
   ·rcases cq.mp ((uX d u).mem_iff.mp a) with rfl|a
    ·cases r:bx b y with
     |false=>rfl
     |true=>exact absurd r c
    ·exact Sq.1 b a
   ·rcases cq.mp h with rfl|h
    ·exact .head _
    ·exact .tail _ (.tail _ h)
   ·rcases cq.mp i with rfl|i
    ·exact .head _
    ·exact .tail _ (.tail _ i)
theorem AQ:∀{k:List ab},(∀g∈k,∀f∈k,eB 6 g f=X)->(ia bx k).Pairwise (λg f=>bx f g=ar)
 |[],_=>.nil
 |d::u,lk=>by
  refine Gb (AQ λg a f b=>lk g (.tail _ a) f<|.tail _ b) λg a f b=>lk g ?_ f ?_
  ·rcases cq.mp a with rfl|a
   ·exact .head _
   ·exact .tail _ ((jJ u).mem_iff.mp a)
  ·rcases cq.mp b with rfl|b
   ·exact .head _
   ·exact .tail _ ((jJ u).mem_iff.mp b)
def BC{k:List ab}(n:nE J)(q:k.Perm J)(e:k.Pairwise (λg f=>bx f g=ar)):k=ia bx J:=by
 refine KL (λg f a b d y=>?_) e (AQ n.kd) (q.trans (jJ J).symm);by_cases c:g=f
 ·exact c
 ·have I:=rr (n.kd g (q.mem_iff.mp a) f<|(jJ J).mem_iff.mp b) c;rw[d,y]at I;cases I
def h4:ab->Bool
 |.tup (.int _::_)=>X
 |_=>ar
def mD:ab->Bool
 |.tup (.tup _::_)=>X
 |_=>ar
section
variable{Sz:bA}{l:bk}{O:bw}{Sv:ae->ao->Prop}{j:ao}
theorem Fn{f x:Bool}(p:Nat)(h:O.units+p+2<b6){D:Bool->ao->Prop}:∀{J Sx:List ab}{Sp Ta:List ae}{a:Nat},fw p J Sx=X->x=decide (J.length<Sx.length)->d0 j.heap J Sp->d0 j.heap Sx Ta->(f=X->a=0->∃o u,J=.int o::u)->D (fY J Sx) j->KatLex Sz l O f x D (Sp.zip Ta) a j
 |[],Sx,Sp,Ta,a,_,b,t,C,_,r=>by
  rw[show Sp=[] from t,b];exact kat_nil (by cases Sx<;>exact r)
 |s::J,[],Sp,Ta,a,_,b,t,C,_,r=>by
  rw[show Ta=[] from C,b,List.zip_nil_right];exact kat_nil r
 |s::J,c::Sx,Sp,Ta,a,e,n,t,C,q,r=>by
  rw[fw,cX]at e;let⟨v,@Sp,rfl,d,w⟩:=t;let⟨L,@Ta,rfl,dp,di⟩:=C;rw[List.zip_cons_cons];let@⟨y,Tj,z⟩:=ot e.1;refine kat_cons (iz p y Tj ⋯ d dp Sz l _ _ ?_);rw[z];rw[fY]at r;cases k:ab.beq s c with
  |true=>
   rw[k,aJ rfl]at r;exact kat_yes (Fn p h e.2 (n.trans<|pb.mpr wW) w di (λ_ m=>⋯) r)
  |false=>
   rw[k,aM dA]at r;refine kat_no ?_;by_cases b:(f&&a==0)=X
   ·rw[b];rw[cX]at b;let⟨o,@u,m⟩:=q b.1 ⇑(b.2);cases m;rcases rY e.1 with ⟨B,i,g,A⟩|⟨_,_,_,_,g,_⟩
    ·cases g;cases A;let⟨@I,rfl⟩:=d;let⟨@S5,rfl⟩:=dp;rw[bx]at r;exact oneLt_int r
    ·cases g
   ·rw[show (f&&a==0)=ar by simpa using b];exact kat_one _ _ (x7 p e.1 h d dp Sz l _ _ r)
def EI{f:Bool}(n:nE J)(h:d0 j.heap J SG)(m:∀s∈J,∃u,s=.tup u)(z:f=X->∀s∈J,h4 s=X)(N:O.units+9<b6):
  fO SG.length (o9 J) (ff Sz l O (rv f)<|SG.toArray.zip SG.toArray) j:=by
 intro a i aO U A r;have P:=h.length;have b:=vf (J:=J) (a:=a) ⋯;have c:=vf (J:=J) (a:=i) ⋯;unfold o9 at r;rw[DK n b c]at r;let⟨@Td,o,B⟩:=h.get (i:=a) (v:=SG[a]) ↥0;let⟨@Te,p,C⟩:=h.get (i:=i) (v:=SG[i]) ↥0;rw[cN,o,cN,p]at r;rw[cN,o]at b;rw[cN,p]at c;let⟨@g,D⟩:=m Td b;let⟨@k,E⟩:=m Te c;subst D E;have lk:fw 5 g k=X:=n.kd _ b _ c;unfold ff;rw[sz rfl,sz rfl,cN,cN,e4 U,e4 A];show wpAny _ _ (keyLt' (rv f) SG[a] SG[i]) _ _ _;let⟨d,Q,w,@R,F,G,S,H,q⟩:=B;let⟨y,T,SI,@al,I,S6,S8,L,t⟩:=C;rw[F,I];refine kat_lt (b:=f) G H S6 L ?_;have aX:g.length=w.size:=by rw[q.length,fy]
 have bp:k.length=SI.size:=by rw[t.length,fy]
 refine Fn 5 ⋯ lk (by rw[aX,bp]) q t (λM W=>?_) (by have x:aO (bx (.tup g)<|.tup k) j:=r;rw[bx]at x;exact x);have:=z M _ b;unfold h4 at this;split at this
 ·rename_i e;cases e;exact⟨_,_,rfl⟩
 ·cases this
theorem Dm:∀{J:List ab}{SG:List ae},d0 j.heap J SG->(∀s∈J,h4 s=X)\/(∀s∈J,mD s=X)->∃aa,KatTups j.heap SG aa/\aa.length=SG.length/\
  ((∀s∈J,h4 s=X)->∀v∈aa,∃a I,v=ae.int a I)/\((∀s∈J,mD s=X)->∀v∈aa,∃g h,v=ae.ref g/\j.heap.get? g=Z h/\h.cls=.type "tuple")
 |[],SG,e,_=>by
  rw[show SG=[] from e];exact⟨[],trivial,rfl,(λ_ W e=>nomatch e),(λ_ W e=>nomatch e)⟩
 |s::J,SG,e,i=>by
  let⟨v,@u,rfl,t,C⟩:=e;let⟨@aa,m,o,q,w⟩:=Dm C (i.imp (λz d b=>z d<|.tail _ b) λz d b=>z d<|.tail _ b);have sA:∃x Ti,s=.tup (x::Ti):=by
   rcases i with z|z
   ·have:=z s (.head _);unfold h4 at this;split at this
    ·exact⟨_,_,rfl⟩
    ·cases this
   ·have:=z s (.head _);unfold mD at this;split at this
    ·exact⟨_,_,rfl⟩
    ·cases this
  let⟨x,@Ti,rfl⟩:=sA;let⟨g,n,S,@p,rfl,y,A,B,D⟩:=t;let⟨k,@H,c,l,M⟩:=D;have E:S[0]?=Z k:=by
   rw[<-gU,c];rfl
  refine⟨k::aa,KatTups.cons y A B E m,by simp[o],λz L f=>?_,λz L f=>?_⟩
  ·rcases cq.mp f with rfl|f
   ·have:=z _ (.head _);unfold h4 at this;split at this
    ·rename_i r;cases r;exact⟨_,l⟩
    ·cases this
   ·exact q (λd b=>z d<|.tail _ b) L f
  ·rcases cq.mp f with rfl|f
   ·have:=z _ (.head _);unfold mD at this;split at this
    ·rename_i r;cases r;let⟨F,S7,W,@W,G,S6,S8,W⟩:=l;exact⟨F,S7,G,S6,S8⟩
    ·cases this
   ·exact w (λd b=>z d<|.tail _ b) L f
end
section
variable{b:aL}
theorem bM.pick{m:ax}{SI:List aj}(e:bM m J SI):∀{q:List Nat},(∀o∈q,o<J.length)->bM m (q.map λa=>J.getD a .aV) (q.map λa=>SI.getD a .aV)
 |[],_=>rfl
 |o::q,b=>by
  let⟨@v,c,d⟩:=e.get (a:=o) (s:=J.getD o .aV) (by
   have:=b o (.head _);rw[cN,e4 this];rfl)
  refine⟨v,_,?_,d,e.pick λi f=>b i<|.tail _ f⟩;rw[cE,cN,c];rfl
structure nD(J:List ab):Prop where
 ord:yw J
 fst:(∀s∈J,h4 s=X)\/(∀s∈J,mD s=X)
structure ql(J:List ab):Prop where
 ord:nE J
 fst:(∀s∈J,h4 s=X)\/(∀s∈J,mD s=X)
def nD.w{J:List ab}(n:nD J):ql J:=⟨n.ord.w,n.fst⟩
def ql.tup(n:ql J):∀s∈J,∃u,s=.tup u:=λs hd=>by
 rcases n.fst with z|z
 ·have:=z s hd;unfold h4 at this;split at this
  ·exact⟨_,rfl⟩
  ·cases this
 ·have:=z s hd;unfold mD at this;split at this
  ·exact⟨_,rfl⟩
  ·cases this
def d0.tT{e Sq:a5}(o:∀f n,e.get? f=Z n->Sq.get? f=Z n){J:List ab}{Sp:List ae}(d:d0 e J Sp):d0 Sq J Sp:=d.keep λg n W W c W W=>o g n c
def E_{e:a5}{j:ao}(n:ql J)(C:2<=SG.length)(h:d0 j.heap J SG)(O:bw)(Sv:ae->ao->Prop)(D:gA->ao->Prop)(c:D (rv<|decide (∀s∈J,h4 s=X)) j):
  wpAny (aS b.prog b.w) O (ye SG.toArray) D Sv j:=by
 let⟨@aa,i,t,k,m⟩:=Dm h n.fst;have u:=h.length;by_cases d:∀s∈J,h4 s=X
 ·rw[dw d]at c;refine kat_kind (T:=ae.type "int") i ⋯ (λv f=>?_) rfl ?_
  ·let⟨a,@I,rfl⟩:=k d v f;exact BB rfl
  ·rw[show (ae.type "int" != ae.type "tuple")=X by decide];exact c
 ·rw[dm d]at c;have o:=n.fst.resolve_left d;refine kat_kind (T:=ae.type "tuple") i ⋯ (λv f=>?_) rfl ?_
  ·let⟨g,@p,rfl,q,r⟩:=m o v f;have:Looks (aS b.prog b.w) j.heap (sa<|.ref g) p.cls:=(Looks.ld q).andThen .now;rw[r]at this;exact this
  ·rw[show (ae.type "tuple" != ae.type "tuple")=ar by decide];exact c
def Bl(z:b.calm=X)(T:b.A.units+20<b6):eA b (.builtin "sorted") (λw m D=>∃(g:af) (J:List ab) (SI:List aj),w=[.ref g]/\(dk b.K m g SI\/cu b.K m g SI)/\bM m J SI/\ql J/\
  ∀k M,m k=Y->bM m (ia bx J) M->D (.ref k) (upd m k<|.lst M)):=by
 intro G j A m w SO D E u e;let⟨g,J,@SI,rfl,h,U,n,r⟩:=e;let⟨@L,rfl,B⟩:=ir u;cases B;have F:SI.length<=1000:=by rw[<-U.length];exact n.ord.dD
 have go:∀{S:String}{SG:List ae}{p:Nat}{d:bj},(S = "list" \/ S = "tuple")->bW SI SG->j.heap.get? g=Z d->d.cls=.type S->d.data=.seq SG.toArray p->wpAny (aS b.prog b.w) b.A (call (.builtin "sorted") [.ref g]) (eO b G A D) b.cU j:=by
  intro S SG p d H f c aE i;have v:=U.fh E.aY f;have I:SG.length=J.length:=v.length.symm;refine Ce z (o9 J) (rv<|decide (∀s∈J,h4 s=X)) E f H c aE i F (λC x Tb o O Sv D N=>E_ (e:=x) n C (v.tT o) O Sv D N) (λx Tb o=>?_) (.inl (by have:=n.ord.dD;lia)) λq k t y aT=>?_
  ·refine EI (j:={j with heap:=x,toks:=Tb}) n.ord (v.tT o) n.tup (λP=>?_) (by show b.A.units+1+1+9<b6;lia);exact hz P
  ·rw[I]at t y;have Q:(q.toList.map λa=>J.getD a .aV)=ia bx J:=BC n.ord (y5 t) (GJ n.ord t y);refine r k _ aT ?_;rw[<-Q];exact U.pick λo R=>gr.mp (t.mem_iff.mp R)
 rcases h with h|h
 ·let⟨@SG,f,q,W⟩:=E.list h;let⟨@d,c,aE,⟨@p,i⟩⟩:=q.isList;exact go (.inl rfl) f c aE i
 ·let⟨@SG,f,q,W⟩:=E.tuple h;let⟨@d,c,aE,⟨@p,i⟩⟩:=q;exact go (.inr rfl) f c aE i
theorem Fs{m:ax}:∀{SF:List (List ab×aj)}{Sx:List (List ab×af×ae)},eg (λ(q:List ab×aj) (r:List ab×af×ae)=>q.1=r.1/\hM m q.1 r.2.1/\cc q.2 r.2.2) SF Sx->
  bM m (SF.map λq=>.tup q.1) (Sx.map λd=>aj.ref d.2.1)/\bW (Sx.map λd=>aj.ref d.2.1) (Sx.map λd=>ae.ref d.2.1)
 |_,_,.nil=>⟨rfl,.nil⟩
 |_,_,.cons u I=>by
  let@⟨t,C⟩:=Fs I;exact⟨⟨_,_,rfl,u.2.1.2,t⟩,.cons rfl C⟩
def HE(bd:b.calm=X)(cs:b.A.units+20<b6):eA b (.builtin "sorted") (λw m D=>∃(s:af) (SF:List (List ab×aj)),w=[.ref s]/\m s=Z (.ay SF)/\nD (SF.map λq=>.tup q.1)/\
  ∀k M,m k=Y->bM m (ia bx<|SF.map λq=>.tup q.1) M->D (.ref k) (upd m k<|.lst M)):=by
 intro G j A m w SO D E u e;let⟨s,@SF,rfl,hd,g,r⟩:=e;let⟨@L,rfl,be⟩:=ir u;cases be;let@⟨z,Q,⟨@Sx,rel,⟨n,bi,@Tg,bm,bn,bs,bv,ah⟩⟩⟩:=E.aY s _ hd;let@⟨U,i⟩:=Fs rel;have T:iR j.heap s (Sx.map λd=>ae.ref d.2.1) Tg:=⟨n,bi,bm,bn,bs,by rw[bv,gf];rfl⟩;generalize (Sx.map λd=>ae.ref d.2.1)=SG at i T;generalize (Sx.map λd=>aj.ref d.2.1)=SI at U i;generalize db:(SF.map λq=>ab.tup q.1)=J at U g r;have F:=U.fh E.aY i;have al:SG.length=J.length:=F.length.symm;have dD:=g.ord.dD;have ds:SI.length=SG.length:=i.length;have am:SG.length<=sizeLine:=ew ⋯ (show 1000<=sizeLine by decide);refine xV kind_sorted GP FY (CE _) ?z
 case z=>
  unfold a_.«sorted»;refine aw (m:=checkCount "sorted" 1 1 _) (aW<|aw<|kdu_collect (A:=b.A.in1) (J4 Q) (E.ok.hd bd) T am λSq Tb I N an=>?_);have ca:I.toList=SG:=by
   apply F_
   ·rw[fy];exact an.1
   ·intro a t C;have:=an.2 a I.toList[a] (by rw[<-gU];exact e4 t);have this:SG[a]?=Z I.toList[a]:=this;rw[e4 C]at this;exact (Option.some.inj this).symm
  rw[ca];refine aw (xR ?_ am);have ap:(Sq.push<|gs "list" SG.toArray 0).get? Sq.objs.size=Z (gs "list" SG.toArray 0):=dx _ rfl;have a8:∀f n,j.heap.get? f=Z n->(Sq.push<|gs "list" SG.toArray 0).get? f=Z n:=λf n c=>cw _ (N f n c);have as:aH b G A m {j with heap:=Sq,toks:=Tb}:=E.kept N;have a1:∀f n,j.heap.get? f=Z n->f≠Sq.objs.size:=λf n c=>dU (cn<|N f n c);refine aw (fB<|iH Ek ⟨_,ap,rfl⟩ GZ ?y<|Gm _)
  case y=>
   refine Aa (j:={j with heap:=Sq.push (gs "list" SG.toArray 0),toks:=Tb}) (o9 J) (rv<|decide (∀s∈J,h4 s=X)) ap
    (λC P R D cd=>E_ (b:=b) (e:=P) g.w C (F.tT λf n p=>R f n (a1 f n p)<|a8 f n p) _ _ D cd)
    (λP R=>EI (j:={j with heap:=P,toks:=Tb}) g.w.ord (F.tT λf n p=>R f n (a1 f n p)<|a8 f n p) g.w.tup (λce=>hz ce) (by show b.A.units+1+1+9<b6;lia))
    (.inl ⋯) ⋯ λq C h a2 S8 ⟨ch,ci⟩=>⟨_,rfl,aW ⟨_,rfl,?_⟩⟩;have cl:m Sq.objs.size=Y:=as.aY.fresh (bl _);have co:∀f n,Sq.get? f=Z n->f≠Sq.objs.size:=λf n c=>dU (cn c);rw[al]at h a2;refine⟨.ref Sq.objs.size,upd m Sq.objs.size<|.lst<|q.toList.map λa=>SI.getD a .aV,?_,rfl,r _ _ cl ?_⟩
   ·refine as.laid (S5:=Tb) (λf L c=>S8 f L (co f L c)<|cw _ c) (bl _) ⟨?_,_,ch,?_,ci⟩
    ·rw[a9,fy,h.size];lia
    ·refine vp ↥0 λa v L t C=>?_;rw[gq]at t C;cases S:q.toList[a]? with
     |none=>rw[S]at t;cases t
     |some o=>
      rw[S]at t C;cases t;cases C;have x:o<SG.length:=by rw[al];exact gr.mp (h.mem_iff.mp<|j1 S)
      let⟨@L,B,cr⟩:=i.get (a:=o) (d:=SI[o]'⋯) (by simp[show o<SI.length by lia]);rw[e4 x]at B;have B:=Option.some.inj B;simp only[List.getD,e4 x,e4 (show o<SI.length by lia),uz];rw[B];exact cr
   ·rw[<-BC g.w.ord (y5 h) (GJ g.w.ord h a2)];exact U.pick λo x=>gr.mp (h.mem_iff.mp x)
def xr(J:List ab):Bool:=(decide (J.length<=1000)&&J.all (λg=>J.all λf=>eB 6 g f)&&decide J.Nodup&&(J.all h4 || J.all mD))
def sH:xr J=X↔nD J:=by
 unfold xr;rw[cX,cX,cX,EX,hO,hO,kz,kz,kz];constructor
 ·rintro⟨⟨⟨t,C⟩,a⟩,b⟩;exact⟨⟨t,λg c f d=>kz.mp (C g c) f d,a⟩,b⟩
 ·rintro⟨⟨t,C,a⟩,b⟩;exact⟨⟨⟨t,λg c=>kz.mpr λf d=>C g c f d⟩,a⟩,b⟩
def i9(J:List ab):Option ak:=(if xr J=X then Z (.lst<|ia bx J) else Y)
def hD:h2:=(λJ=>match J with
 |[.lst d]=>match p_ d with
  |some Q=>yL [.lst d]
  |none=>i9 d
 |[.im (.tup d)]=>i9 d
 |[.ay SF]=>i9 (SF.map λq=>.tup q.1)
 |_=>Y)
def xf{s:ak}(e:i9 J=Z s):nD J/\s=.lst (ia bx J):=by
 unfold i9 at e;split at e
 ·rename_i c;cases e;exact⟨sH.mp c,rfl⟩
 ·cases e
theorem Bw{m:ax}:∀{SF:List (List ab×ab)}{i:List (List ab×aj)},d_ m SF i->(SF.map λq=>ab.tup q.1)=i.map λq=>ab.tup q.1
 |_,_,.nil=>rfl
 |_,_,.cons u I=>by rw[cE,cE,Bw I,u.1]
def mT(g:b.calm=X)(h:b.A.units+20<b6):hu b (.builtin "sorted") hD:=by
 intro G j A m w SO D E u o;let⟨J,@s,n,c,r⟩:=o;unfold hD at c;split at c
 ·rename_i d;split at c
  ·exact KI g h G j A m w SO D E u ⟨_,s,n,c,r⟩
  ·let@⟨e,rfl⟩:=xf c;let⟨@v,rfl,⟨W,q,@SI,rfl,t,C,W⟩⟩:=gi n;exact Bl g h G j A m _ SO D E u ⟨q,d,SI,rfl,.inl<|dk.of t,C,e.w,λk M aT f=>cb.l r aT f⟩
 ·rename_i d;let@⟨e,rfl⟩:=xf c;let⟨@v,rfl,p⟩:=gi n;let⟨q,@SI,rfl,t,C⟩:=p.i;exact Bl g h G j A m _ SO D E u ⟨q,d,SI,rfl,.inr<|cu.of t,C,e.w,λk M aT f=>cb.l r aT f⟩
 ·rename_i SF;let@⟨e,rfl⟩:=xf c;let⟨@v,rfl,⟨W,q,@i,rfl,t,C,W⟩⟩:=gi n;rw[Bw C]at e r;exact HE g h G j A m _ SO D E u ⟨q,i,rfl,t,e,λk M aT f=>cb.l r aT f⟩
 ·cases c
end
end L2
namespace PySem
open PySem.Sem (wp)
def L4:ve (.type "list") "keys" = pure Y:=by rw[vW,vP];kernel_rfl
def Ja{Sz:bA}{l:bk}{O:bw}{Sv:ae->ao->Prop}{j:ao}{g:af}{w:Array ae}{o:Nat}{D:Option ae->ao->Prop}(a:j.heap.get? g=Z {cls:=.type "list",data:=.seq w o})(i:O.handled=Y)(e:∀Sq Tb,(∀f n,j.heap.get? f=Z n->Sq.get? f=Z n)->D Y {j with heap:=Sq,toks:=Tb}):wpAny (aS Sz l) O (getAttr? (.ref g) "keys") D Sv j:=by
 let⟨k,M,s,Tb,P⟩:=j;have b:∀d,(⟨k,M,s,d,P⟩:ao).TypeIs (.ref g) "list" := λ_=>⟨_,a,rfl⟩;have r:=sub_AttributeError;have t:=w_.lookup;have u:=w_.bind (.ref g);have v:=am_list_getattr_none;unfold getAttr? getAttrBy? getAttrBy;repeat (any_goals (first|assumption|exact b _|((with_reducible show wpAny _ _ (call (ae.builtin "list.__getattribute__") _ _) _ _ _);refine ox w_ (b _) am_entry_list_getattribute (F.args_list_getattribute_2 _ _) (meets_getattribute_miss_list g w o _ "keys" _ L4 (by decide +kernel) ∅) ⟨a,i,λSq d c h=>?_⟩)|wp_step))
 let⟨S5,@x,m⟩:=h.there;show wpAny _ _ (CH _ _ _ _ _ _ _) _ _ _;unfold CH;have p:∀q,(⟨Sq,M,s,q,P⟩:ao).TypeIs (.ref c) "AttributeError" := λ_=>⟨_,m,rfl⟩;repeat (any_goals (first|assumption|exact p _|wp_step))
 exact e Sq _ h.keeps
end PySem
namespace PySem
namespace F
def DA:wa table "dict.update.loop" = Z a_.«dict.update.loop»:=entryFor_of_tree (by kernel_rfl)
def tU:plainId "dict.update.loop" = X:=by decide +kernel
end F
end PySem
namespace L2
open Spec PyProof.Rows PySem.W
variable{p:Nat}{Sx:List bu}{S:Array ae}{I:af}{j:ao}{SK:Pos}{v o:bu}
theorem yi{SU Tx:Type}{N:SU->Tx->Prop}:∀{b:List SU}{c:List Tx},eg N b c->∀(a:Nat),a<b.length->∃g f,b[a]?=Z g/\c[a]?=Z f/\N g f
 |_,_,.nil,a,e=>by simp at e
 |_,_,.cons u I,0,e=>⟨_,_,rfl,rfl,u⟩
 |_,_,.cons u I,a+1,e=>by
  let⟨g,@f,d,y,h⟩:=yi I a ⇑e;exact⟨g,f,by simpa using d,by simpa using y,h⟩
def lG:List ab->Option (List<|List ab×ab)
 |[]=>Z []
 |.tup [.tup o,s]::u=>(lG u).map λj=>(o,s)::j
 |_=>Y
def PB:∀{d:List ab}{SJ:List (List ab×ab)},lG d=Z SJ->d=SJ.map λq=>.tup [.tup q.1,q.2]:=by
 intro d;induction d with
 |nil=>intro SJ e;cases e;rfl
 |cons g d a=>
  intro SJ e;unfold lG at e;split at e
  ·cases e;rename_i c;cases c
  ·rename_i o s u c;cases c;let⟨@j,b,f⟩:=cJ.mp e;cases f;rw[cE,<-a b]
  ·cases e
def hh(SJ:List (List ab×ab)):List (List ab×ab):=(SJ.foldl (λg q=>fv g q.1 q.2) [])
def xK(m:ax)(v:aj)(q:List ab×ab):Prop:=(∃I g y,v=.ref I/\m I=Z (.tup [.ref g,y])/\hM m q.1 g/\cD m q.2 y)
theorem GU{m:ax}:∀{SJ:List (List ab×ab)}{SI:List aj},(∀q∈SJ,ab.keys 7 q.1=X)->bM m (SJ.map λq=>.tup [.tup q.1,q.2]) SI->eg (xK m) SI SJ
 |[],SI,_,e=>by rw[show SI=[] from e];exact .nil
 |q::SJ,SI,a,e=>by
  let⟨v,@u,rfl,⟨I,@M,rfl,t,⟨v1,@l,rfl,C,⟨b,@c,rfl,d,f⟩⟩⟩,h⟩:=e;cases (show c=[] from f);let⟨g,@Ta,rfl,i,j⟩:=C;exact .cons ⟨I,g,b,rfl,t,⟨a q<|.head _,g,Ta,rfl,i,j⟩,d⟩ (GU (λr k=>a r<|.tail _ k) h)
section
variable{b:aL}{G:List (af×bj)}{A:L2.a3}{m:ax}{R:ao}
def eM.is{SF:List (List ab×aj)}{w:List (List ab×af×ae)}(u:eM m SF w):∀d∈w,hM m d.1 d.2.1:=by
 intro d b;let⟨a,U,rfl⟩:=nt.mp b;let⟨q,@r,t,C,c,e,W⟩:=yi u a (by rw[eg.length u];exact U);rw[e4 U]at C;have C:=Option.some.inj C;subst C;rw[<-c];exact e
def zi(a:aH b G A m R){B:af}{e Sq:a5}{SF:List (List ab×aj)}{w:List (List ab×af×ae)}(c:e.DictOfH (gu b.prog b.w) B w)(i:eM m SF w)(ea:∀f n,R.heap.get? f=Z n->Sq.get? f=Z n)(g:∀n,e.get? B=Z n->Sq.get? B=Z n):Sq.DictOfH (gu b.prog b.w) B w:=by
 let⟨n,Sx,@Tg,t,C,h,j,W,k⟩:=c;have o:aH b G A m {R with heap:=Sq}:=a.kept (S5:=R.toks) ea;exact⟨n,Sx,Tg,g n t,C,h,j,λd p=>l5 (e:=Sq) o.aY<|i.is d p,k⟩
def HK(u:aH b G A m R){O:bw}(bi:O.units+20<b6){B e9 k:af}{Sp:List ae}{SI:List aj}{SJ:List (List ab×ab)}{a3:Nat->a5->Prop}{Su:rd->ao->Prop}(x:bW SI Sp)(am:eg (xK m) SI SJ)(f2:SJ.length<=1000)(W:mn b.prog b.w O.in1 e9 [e9,k] [e9] Sp.length (λa v=>Sp[a]?=Z v) a3)(bm:R.heap.get? B=Y)(C:R.heap.get? e9=Y)(D:B≠e9)(bn:B≠k)(fin:∀(j:ao) (w:List (List ab×af×ae)) (SF:List (List ab×aj)),(∀f n,R.heap.get? f=Z n->j.heap.get? f=Z n)->j.heap.DictOfH (gu b.prog b.w) B w->eM m SF w->d_ m (hh SJ) SF->SF.length<=1000->
   j.gens=R.gens->j.drawn=R.drawn->j.os=R.os->Su (.ok<|.ret .none) j):
  ∀(H a:Nat) (I:iu) (j:ao) (w:List (List ab×af×ae)) (SF:List (List ab×aj)),Sp.length-a=H->a<=Sp.length->a3 a j.heap->(∀f n,R.heap.get? f=Z n->j.heap.get? f=Z n)->
   j.heap.DictOfH (gu b.prog b.w) B w->eM m SF w->d_ m (hh<|SJ.take a) SF->SF.length<=a->j.gens=R.gens->j.drawn=R.drawn->j.os=R.os->
   codeAny (aS b.prog b.w) O (.builtin "dict.update.loop" ⟨[.ref B,.ref e9,.int a I,.none],[]⟩) Su j:=by
 have f4:Sp.length=SJ.length:=by rw[<-x.length,eg.length am]
 intro H;induction H with
 |zero=>
  intro a I j w SF bs U z ea E i t bv M Q S;have ca:a=Sp.length:=⋯
  refine lU F.DA ?_;rw[mN F.tU _];refine aw (m:=hK (.ref e9)) (W.done j _ _ (ca ▸ z) λSq Tb keep=>?_);refine aw (m:=a_.Dict.addKeywords B []) (aW<|aW ?_);have s:∀f n,f≠e9->j.heap.get? f=Z n->Sq.get? f=Z n:=λf n r c=>keep f n ⇑r c;refine fin _ w SF (λf n c=>s f n (λd=>by rw[d,C]at c;cases c)<|ea f n c) ?_ i (by rw[qx ⋯]at t;exact t) ⋯ M Q S;exact zi u E i (λf n c=>s f n (λd=>by rw[d,C]at c;cases c)<|ea f n c) λn c=>s B n D c
 |succ H cd=>
  intro a I j w SF bs U z ea E i t bv M Q S;have lt:a<Sp.length:=⋯
  refine lU F.DA ?_;rw[mN F.tU _];refine aw (m:=hK (.ref e9)) (W.item a j _ _ lt z λv Sq Tb ce ch keep=>?_);have s:∀f n,f≠e9->j.heap.get? f=Z n->Sq.get? f=Z n:=λf n r c=>keep f n ⇑r c;let⟨y,@h,ci,cl,⟨q,g,@an,rfl,co,ap,cr⟩⟩:=yi am a (by rw[x.length];exact lt);let⟨@L,as,cs⟩:=x.get ci;rw[ce]at as;cases as;cases cs;have T:∀f n,R.heap.get? f=Z n->Sq.get? f=Z n:=λf n c=>s f n (λd=>by rw[d,C]at c;cases c) (ea f n c);have a1:aH b G A m {R with heap:=Sq}:=u.kept (S5:=R.toks) T;have db:=zi u E i T λn c=>s B n D c;let@⟨_,⟨@SG,ds,⟨@n,a2,dL,⟨@p,eq⟩⟩⟩⟩:=a1.aY _ _ co;let⟨f8,@al,rfl,ev,ex⟩:=qz ds;cases ev;show wpAny (aS b.prog b.w) O.in1 (holding [.ref q] _ >>= λ_=>again _) _ _ _;refine aw (fB<|aw<|qF ?_);unfold a_.Dict.pairItems;refine aw (wpAny_typeOf (s:={j with heap:=Sq,toks:=Tb}) (⟨n,a2,(Prod.mk.inj dL).1⟩:ao.TypeIs {j with heap:=Sq,toks:=Tb} (.ref q) "tuple") ?_);rw[aJ ∅];refine aw (iN (s:={j with heap:=Sq,toks:=Tb}) a2 eq<|aW ?_);show wpAny (aS b.prog b.w) O.in1 (holding [.ref g,al]<|dictSet B (.ref g) al) _ _ _;refine fB (Ai (s:={j with heap:=Sq,toks:=Tb}) (k:=h.1) (knd:=gu b.prog b.w) (ov bi) (l5 (e:=Sq) a1.aY ap) db (λfd fn cv=>?_) (by
   have:=eg.length i;exact ew (show w.length<=1000 by lia) ∅))
  have bd:∀f n,f≠B->Sq.get? f=Z n->fd.get? f=Z n:=λf n r c=>(cv.2 f r).trans c;have fr:=i.put h.1 (f:=g) (y:=an) (L:=al) ap ex;have f0:SJ.take (a+1)=SJ.take a++[h]:=by
   have be:=(fX.mp cl);rw[List.take_succ_eq_append_getElem be.1,be.2]
  have f1:d_ m (hh<|SJ.take<|a+1) (fk SF h.1 an):=by
   rw[f0];unfold hh;rw[Gx];exact d_.put cr t
  refine aW ⟨kX F.tU _,cd (a+1) 0 _ _ _ ⋯ lt (W.frame _ _ _ ch λf r n c=>bd f n (λd=>by
    subst d;rcases cq.mp r with d|r
    ·exact D d
    ·exact bn (cA.mp r)) c) (λf n c=>bd f n (λd=>by rw[d,bm]at c;cases c)<|T f n c) fn fr f1 ?_ M Q S⟩
  unfold fk;split
  ·rw[a9];lia
  ·simp;lia
def K8(x:b.calm=X)(ch:b.A.units+30<b6):eA b (.type "dict") (λw m D=>∃(k:af) (SI:List aj) (SJ:List (List ab×ab)),w=[.ref k]/\m k=Z (.lst SI)/\eg (xK m) SI SJ/\SJ.length<=1000/\
  ∀(s:af) (SF:List (List ab×aj)),m s=Y->d_ m (hh SJ) SF->D (.ref s) (upd m s<|.ay SF)):=by
 intro G j A m w SO D E u e;let⟨k,SI,@SJ,rfl,Q,R,S,r⟩:=e;let⟨@L,rfl,T⟩:=ir u;cases T;let@⟨z,⟨SG,@p,U,c⟩⟩:=E.aY k _ Q;have y:k<j.heap.objs.size:=cn c;refine BE (Q₁:=λC I=>C=.ref j.heap.objs.size/\I={j with heap:=j.heap.push {cls:=.type "dict",data:=.dict #[]} }) PySem.F.kt_called_dict (PySem.F.kt_typeCall_dict_1 _) PySem.F.entry_dict_init (kt_code_dict_new _ ⟨rfl,rfl⟩) ?_;rintro C I ⟨rfl,rfl⟩;have al:(j.heap.push {cls:=.type "dict",data:=.dict #[]}).DictOfH (gu b.prog b.w) j.heap.objs.size []:=a5.DictOfH.new j.heap;have J:ao.TypeIs {j with heap:=j.heap.push {cls:=.type "dict",data:=.dict #[]} } (.ref j.heap.objs.size) "dict" := ⟨_,dx _ rfl,rfl⟩;have d:(j.heap.push {cls:=.type "dict",data:=.dict #[]}).get? k=Z {cls:=.type "list",data:=.seq SG.toArray p}:=cw _ c;refine⟨J,PySem.F.args_dict_init_2 _ _,?_⟩;unfold a_.«dict.__init__»;refine aw ?_;unfold a_.Dict.selfAndRest;refine aw (yz J ?_);show wpAny _ _ (pure (j.heap.objs.size,[ae.ref k])) _ _ _;refine aW ?_;show wpAny _ _ (a_.Dict.updateFrom "dict.__init__" j.heap.objs.size (.ref k) [] .none) _ _ _;unfold a_.Dict.updateFrom;refine aw (wpAny_typeOf (⟨_,d,rfl⟩:ao.TypeIs {j with heap:=j.heap.push {cls:=.type "dict",data:=.dict #[]} } (.ref k) "list") ?_);rw[aJ ∅];refine aw (Ja (j:={j with heap:=j.heap.push {cls:=.type "dict",data:=.dict #[]} }) d (E.ok.hd x) λt Tb S6=>?_);rw[aJ (show (Y:Option ae).isNone=X from rfl)];refine aw (m:=rule _) (h7 ?_);have M:t.IsList k SG.toArray:=⟨_,S6 _ _ d,rfl,p,rfl⟩;refine aw (rS (s:={j with heap:=t,toks:=Tb}) M ?_);have g:j.heap.objs.size<t.objs.size:=cn (S6 _ _<|dx _ rfl);have ea:∀f n,j.heap.get? f=Z n->(t.push {cls:=.type "list_iterator",data:=.fields #[.ref k,.int 0 0]}).get? f=Z n:=λf n h=>cw _ (S6 f n<|cw _ h);refine aW ⟨kX PySem.F.tU _,?_⟩;have am:(t.push {cls:=.type "list_iterator",data:=.fields #[.ref k,.int 0 0]}).DictOfH (gu b.prog b.w) j.heap.objs.size []:=zi E (SF:=[]) al .nil ea λn an=>cw _ (S6 _ _ an);have ap:k≠t.objs.size:=dU (FI y g);refine HK E (O:=b.A.in1) (by show b.A.units+1+20<b6;lia) (B:=j.heap.objs.size) (e9:=t.objs.size) (k:=k) (a3:=λa e=>e.IsListIter t.objs.size k a/\e.IsList k SG.toArray) U R S ?_ (xm<|bl _) (xm<|rN g) (dU g) (lH y)
  (λSr w SF as a1 a2 bd cl i o q=>?_) SG.length 0 0 _ [] [] rfl (gI _) ?_ ea am .nil .nil (bl _) rfl rfl rfl
 ·have W:=mn.list (prog:=b.prog) (w:=b.w) (A:=b.A.in1.in1) (E.ok.hd x) t.objs.size k ap SG.toArray;have be:(λ(a:Nat) (v:ae)=>SG.toArray[a]?=Z v)=λa v=>SG[a]?=Z v:=by
   funext a v;rw[G2]
  rw[be,cO]at W;exact W
 ·let⟨Sq,bi,bm,S5,bn⟩:=Sr;have i:bi=j.gens:=i;have o:bm=j.drawn:=o;have q:bn=j.os:=q;subst i o q;have xc:m j.heap.objs.size=Y:=E.aY.fresh (bl _);let⟨n,Sx,@Tg,bs,bv,ca,cd,P,ce⟩:=a1;refine⟨rfl,.ref j.heap.objs.size,_,E.laid (n:=.ay SF) (Sq:=Sq) (S5:=S5) as (bl _) ⟨ew (show SF.length<=1000 by lia) ∅,w8.mpr<|fP<|dU E.big,w,a2.keeps λf SI h=>B_ h xc,n,Sx,Tg,bs,bv,ca,cd,ce⟩,rfl,r _ SF xc bd⟩
 ·exact⟨⟨_,dx _ rfl,rfl,rfl⟩,M.push _⟩
@[simp] def ob:h2:=λJ=>match J with
 |[.lst d]=>(lG d).bind λSJ=>if (SJ.all λq=>ab.keys 7 q.1)=X/\SJ.length<=1000 then Z (.ay<|hh SJ) else Y
 |_=>Y
def DC(f:b.calm=X)(h:b.A.units+30<b6):hu b (.type "dict") ob:=by
 refine (K8 f h).imp λw m D i=>?_;let⟨J,@s,k,c,r⟩:=i;unfold ob at c;split at c
 ·rename_i d;let⟨@SJ,l,a⟩:=bS.mp c;split at a
  ·rename_i e;cases a;let⟨@v,rfl,⟨W,q,@SI,rfl,t,C,W⟩⟩:=gi k;rw[PB l]at C;refine⟨q,SI,SJ,rfl,t,GU (λr n=>kz.mp e.1 r n) C,e.2,λs SF hd o=>?_⟩;have j:cZ m (upd m s<|.ay SF):=(cZ.refl m).upd hd;exact r _ _ [s] j ⟨s,SF,rfl,eT,o.mono j.tupS.tup,rfl⟩ (ep _ _) λg p=>by rw[cA.mp p];exact hd
  ·cases a
 ·cases c
end
section
variable{b:aL}
def JG(Tb k:b5):b5:=(λA m D=>∀q,m q=Y->Tb A (upd m q<|.ay []) λd SD=>k A SD λy SP=>∃f o,d=.ref f/\hM SP o f/\SP q=Z (.ay [])/\D (.ref q) (upd SP q<|.ay [(o,y)]))
def Kt{Tb k:b5}(an:b.A.units+20<b6)(u:bN b o Tb)(x:bN b v k):bN b (.Dict [Z o] [v] SK) (JG Tb k):=by
 intro G j A m D E r;have z:=E.aY.fresh (bl j.heap.objs.size);have B:=E.laid (g:=j.heap.objs.size) (n:=.ay []) (Sq:=j.heap.push {cls:=.type "dict",data:=.dict #[]}) (S5:=j.toks) (λ_ W r=>cw _ r) (bl _) (CI j.heap E.big);refine wpAny_Dict_any rfl rfl ↥0 ↥0 ?_;refine pairTrees_cons_walk (bX (u G _ A _ _ B<|r _ z) λL F ⟨d,SD,H,I,M⟩=>bX (x G F A SD _ H M) λap N ⟨y,SP,a,P,f,h,Th,e,c,Q⟩=>pairTrees_nil_walk ?_);subst Th;cases I;let@⟨p,R,⟨@w,i,S⟩⟩:=qM a.aY c;cases i;unfold storeAll;rw[sP];refine aw (aw (Ai (k:=h) (knd:=gu b.prog b.w) (show b.A.units+10<b6 by lia) (l5 a.aY e) S (λSq T cv=>aW ?_)<|gI _));refine aW ⟨.ref j.heap.objs.size,_,?_,rfl,Q⟩;let⟨q,Sx,@Tg,s,C,U,al,W,am⟩:=T;refine te (j:=N) a (by rw[c];exact True.intro) cv ⟨q,s⟩ ⟨(show 1<=sizeLine by decide),R,_,eM.keeps (eM.put (SF:=[]) (w:=[]) .nil h (f:=f) e P) λas SI t=>?_,q,Sx,Tg,s,C,U,al,am⟩;rw[c2 (zw t c<|λp=>nomatch p)];exact t
@[simp] def vq(a b:aA ak):aA ak:=λB=>(a B).bind λq=>(b q.2).bind λr=>match q.1,r.1 with
 |.im (.tup o),.im s=>if ab.keys 7 o=X then Z (.ay [(o,s)],r.2) else Y
 |_,_=>Y
def yl{H I:aA ak}(R:b.A.units+20<b6)(S:cj b o H)(T:cj b v I):cj b (.Dict [Z o] [v] SK) (vq H I):=by
 refine ey (Kt R S T) λA m D ⟨B,N,u,SR,z,ah,U,r⟩ q l=>?_;let⟨@⟨Td,Sy⟩,t,C⟩:=bS.mp U;let⟨@⟨Te,S2⟩,al,i⟩:=bS.mp C;have j:cZ m (L2.upd m q<|.ay []):=(cZ.refl m).upd l;have J:q∉N:=λa=>by let⟨@n,c,W⟩:=z.chg q a;rw[l]at c;cases c
 refine⟨B,N,Td,Sy,z.mono j.tupS λg W n c=>j g n c,ah,t,λd SD F bi am E p=>?_⟩;have an:=df.mp p.ah;refine⟨Sy,F,Te,S2,am,an.1,al,λy SP SW b0 ap Tn k=>?_⟩;dsimp only at i;split at i
 ·rename_i s bm;split at i
  ·rename_i as;cases i;let@⟨a1,rfl⟩:=E;let@⟨a2,rfl⟩:=Tn;rw[cB]at p k;have x:=p.seq k;have M:SD q=Z (.ay []):=p.keep q _ eT J;have P:q∉F:=λa=>by
    rcases p.sub q a with e|e
    ·exact J e
    ·rw[eT]at e;cases e
   have G:SP q=Z (.ay []):=k.keep q _ M P;have Q:q∉SW:=λa=>by
    rcases k.sub q a with e|e
    ·exact P e
    ·rw[M]at e;cases e
   let⟨f,@w,rfl,S6,S8⟩:=(show cD SP (.tup s) d from a1.mono k.tup.tup);refine⟨f,s,rfl,⟨as,f,w,rfl,S6,S8⟩,G,?_⟩;have i4:gc SP (L2.upd SP q<|.ay [(s,y)]):=gc.of (λg w c=>by
    have:g≠q:=λa=>by subst a;rw[G]at c;cases c
    rw[c2 this];exact c) λg n L c=>by
    have:g≠q:=λa=>by subst a;rw[G]at c;cases c
    rw[c2 this];exact c
   refine r _ _ SW [q] (ap.mono i4 λg h n c=>by
    have ne:g≠q:=λa=>by subst a;exact Q h
    rw[c2 ne];exact c) ⟨q,[(s,y)],rfl,eT,.cons ⟨rfl,a2.mono i4.tup⟩ .nil,rfl⟩ ?_
   refine⟨λg n c h=>?_,λg h=>?_,?_,?_,λg n c=>?_⟩
   ·have:g≠q:=λa=>by subst a;rw[l]at c;cases c
    rw[c2 this];exact x.keep g n (by rw[c2 this];exact c) h
   ·rcases dt.mp h with e|e
    ·rcases x.sub g e with Sq|Sq
     ·exact .inl Sq
     ·by_cases c:g=q
      ·exact .inr (c ▸ l)
      ·rw[c2 c]at Sq;exact .inr Sq
    ·exact .inr (by rw[cA.mp e];exact l)
   ·exact df.mpr ⟨k.ah,ep _ _,λg h f bd c=>Q (by rw[cA.mp bd]at c;rw[<-c];exact h)⟩
   ·exact (j.tupS.trans x.tup).trans i4
   ·by_cases a:g=q
    ·exact⟨_,by rw[a];exact eT⟩
    ·let⟨@S7,be⟩:=x.grow g n (by rw[c2 a];exact c);exact⟨S7,by rw[c2 a];exact be⟩
  ·cases i
 ·cases i
end
def MV:String->a_:=((⟨_,rfl⟩:{x:String->a_ // x "max" = a_.«max» }).1)
def ML:String->lg->a_:=((⟨_,rfl⟩:{x:String->lg->a_ // x "max" .Gt=a_.«max.loop» }).1)
section
variable{Sz:bA}{l:bk}{O:bw}{Sv:ae->ao->Prop}{j:ao}
def C0{B m:String}{S9:lg}(p:(toString B++toString ".loop" : String)=m)(S:builtinKind B=Y)(T:plainId B=X)(U:wa table B=Z (MV B))(al:∀g f:ae,argsOk B ⟨[g,f],[]⟩)(a:plainId m=X)(r:wa table m=Z (ML B S9)){g f:ae}{o:Bool}{D:ae->ao->Prop}(am:O.handled=Y)(an:∀Sr:ao,(∀h n,j.heap.get? h=Z n->Sr.heap.get? h=Z n)->∀(D:ae->ao->Prop) (Sv:ae->ao->Prop),D (.bool o) Sr->wpAny (aS Sz l) O.in1 (nh S9 f g) D Sv Sr)(e:∀Sq Tb,(∀h n,j.heap.get? h=Z n->Sq.get? h=Z n)->D (if o=X then f else g) {j with heap:=Sq,toks:=Tb}):wpAny (aS Sz l) O (call (.builtin B) [g,f]) D Sv j:=by
 refine call_function_tree S T U (al _ _) ?_;show wpAny _ O.in1 (a_.Builtins.bindParams B ["key","default"] 0 ⟨[],[]⟩ >>= _) _ _ j;refine aw (s_ (show a_.Builtins.bindParams B ["key","default"] 0 ⟨[],[]⟩=pure [Y,Y] from rfl) ?_);show wpAny _ O.in1 (yp [g,f] >>= _) _ _ j;refine aw (ib ?_);have A:(j.heap.push {cls:=.type "tuple",data:=.seq #[g,f]}).IsTuple j.heap.objs.size #[g,f]:=⟨_,dx _ rfl,rfl,0,rfl⟩;refine aw (wpAny_pyIter_tuple A<|aw<|ib ?_);have q:(j.heap.push {cls:=.type "tuple",data:=.seq #[g,f]}).objs.size=j.heap.objs.size+1:=lh ..;have W:=mn.tuple (prog:=Sz) (w:=l) (A:=O.in1) am (j.heap.push {cls:=.type "tuple",data:=.seq #[g,f]}).objs.size j.heap.objs.size (by rw[q];exact dU (pY _)) #[g,f];rw[p];refine aW ⟨kX a _,?_⟩;have d2:((j.heap.push {cls:=.type "tuple",data:=.seq #[g,f]}).push {cls:=.type "tuple_iterator",data:=.fields #[.ref j.heap.objs.size,.int 0 0]}).IsTupleIter (j.heap.push {cls:=.type "tuple",data:=.seq #[g,f]}).objs.size j.heap.objs.size 0:=⟨_,dx _ rfl,rfl,rfl⟩;have E:=A.push {cls:=.type "tuple_iterator",data:=.fields #[.ref j.heap.objs.size,.int 0 0]};have s:((j.heap.push {cls:=.type "tuple",data:=.seq #[g,f]}).push {cls:=.type "tuple_iterator",data:=.fields #[.ref j.heap.objs.size,.int 0 0]}).objs.size=j.heap.objs.size+2:=by rw[lh,q]
 have ea:∀h n,j.heap.get? h=Z n->((j.heap.push {cls:=.type "tuple",data:=.seq #[g,f]}).push {cls:=.type "tuple_iterator",data:=.fields #[.ref j.heap.objs.size,.int 0 0]}).get? h=Z n:=λh n c=>cw _ (cw _ c);rw[q]at W d2;rw[q,s];generalize bs:((j.heap.push {cls:=.type "tuple",data:=.seq #[g,f]}).push {cls:=.type "tuple_iterator",data:=.fields #[.ref j.heap.objs.size,.int 0 0]})=g2 at d2 E s ea ⊢;have F:(g2.push {cls:=.type "list",data:=.seq ([]:List ae).toArray}).get? (j.heap.objs.size+2)=Z {cls:=.type "list",data:=.seq ([]:List ae).toArray}:=by rw[<-s];exact dx _ rfl
 have u:j.heap.objs.size+2∉[j.heap.objs.size+1]:=by simp
 have G:∀h∈[j.heap.objs.size+1,j.heap.objs.size],j.heap.objs.size+2≠h:=λh b d=>by
  simp only[cq,nr,iZ]at b;rcases b with c|c
  ·rw[c]at d;exact absurd d (lH<|pY _)
  ·rw[c]at d;exact absurd d (lH (Nat.lt_add_of_pos_right ∅))
 have i:∀h n,j.heap.get? h=Z n->h∉[j.heap.objs.size+1]/\h≠j.heap.objs.size+2:=λh n c=>by
  have lt:=cn c;refine⟨λd=>?_,dU<|eX lt<|q9 _ _⟩;rw[cA.mp d]at lt;exact jx _ (Nat.lt_of_succ_lt lt)
 have fin:∀(Sq:a5) (Tb:Nat) (k:ae) (H:Nat),(∀h n,j.heap.get? h=Z n->Sq.get? h=Z n)->Sq.get? (j.heap.objs.size+2)=Z {cls:=.type "list",dict:=Y,data:=.seq #[k,k] H,slots:=#[]}->
   Sq.IsTupleIter (j.heap.objs.size+1) j.heap.objs.size 2/\Sq.IsTuple j.heap.objs.size #[g,f]->k=(if o=X then f else g)->
   codeAny (aS Sz l) O (.builtin m ⟨[.ref (j.heap.objs.size+1),.none,.ref<|j.heap.objs.size+2],[]⟩) (wants D Sv) {j with heap:=Sq,toks:=Tb}:=by
  intro Sq Tb k H S6 I z yM;refine lU r ?_;rw[mN a _];show wpAny _ O.in1 (qb (.ref<|j.heap.objs.size+2) >>= _) _ _ _;refine aw (iN (s:={j with heap:=Sq,toks:=Tb}) I rfl ?_);show wpAny _ O.in1 (tryCatch (hK<|.ref<|j.heap.objs.size+1) _ >>= _) _ _ _;refine aw (qF<|W.done {j with heap:=Sq,toks:=Tb} _ _ z λC ap J=>?_);have as:=J _ _ u I;show wpAny _ O.in1 (updateSeq (j.heap.objs.size+2) (λ_=>#[]) >>= _) _ _ _;refine aw (wh as rfl<|aw<|ml<|aW ?_);show D k _;rw[yM];exact e _ ap λh n c=>(ks _ _<|fP (i h n c).2).trans (J h n (i h n c).1 (S6 h n c))
 refine lU r ?_;rw[mN a _];show wpAny _ O.in1 (qb (.ref<|j.heap.objs.size+2) >>= _) _ _ _;refine aw (iN (s:={j with heap:=g2.push {cls:=.type "list",data:=.seq ([]:List ae).toArray} }) F rfl ?_);show wpAny _ O.in1 (tryCatch (hK<|.ref<|j.heap.objs.size+1) _ >>= _) _ _ _;refine aw (qF (W.item 0 {j with heap:=g2.push {cls:=.type "list",data:=.seq ([]:List ae).toArray} } _ _ ↥0 ⟨let ⟨n,a1,a2⟩:=d2;⟨n,cw _ a1,a2⟩,E.push _⟩ λv t bv w bd S6=>?_));cases w;have L:=S6 _ _ u F;show wpAny _ O.in1 (updateSeq (j.heap.objs.size+2) (λ_=>#[g,g]) >>= _) _ _ _;refine aw (wh L rfl ?_);rw[p];refine aW ⟨kX a _,lU r ?_⟩;have M:=l2 (bj.mapSeq<|λ_=>(#[g,g]:Array ae)) L rfl;have be:=W.frame _ _ (t.update (j.heap.objs.size+2)<|bj.mapSeq<|λ_=>(#[g,g]:Array ae)) bd λh b n c=>(ks _ _<|G h b).trans c;have bi:∀h n,j.heap.get? h=Z n->(t.update (j.heap.objs.size+2)<|bj.mapSeq<|λ_=>(#[g,g]:Array ae)).get? h=Z n:=λh n c=>(ks _ _<|fP (i h n c).2).trans (S6 h n (i h n c).1 (cw _<|ea h n c));rw[mN a _];show wpAny _ O.in1 (qb (.ref<|j.heap.objs.size+2) >>= _) _ _ _;refine aw (iN M rfl ?_);show wpAny _ O.in1 (tryCatch (hK<|.ref<|j.heap.objs.size+1) _ >>= _) _ _ _;refine aw (qF (W.item 1 _ _ _ ↥0 be λv bm N w P Q=>?_));cases w;have x:=Q _ _ u M;have y:∀h n,j.heap.get? h=Z n->bm.get? h=Z n:=λh n c=>Q h n (i h n c).1 (bi h n c);show wpAny _ O.in1 (tryCatch (holding [f,f]<|nh S9 f g >>= _) _ >>= _) _ _ _;refine aw (qF<|fB<|aw<|an _ y _ _ ?_);refine aw (fB<|ky ?_);refine aw (ml<|aW ?_);cases R:o with
 |true=>
  simp only[hx];refine aw (wh x rfl<|aw<|ml ?_);rw[p];have bn:=l2 (bj.mapSeq<|λ_=>(#[f,f]:Array ae)) x rfl;refine aW ⟨kX a _,fin _ N f _ (λh n c=>(ks _ _<|fP (i h n c).2).trans<|y h n c) bn (W.frame _ _ _ P λh b n c=>(ks _ _<|G h b).trans c) (by rw[R];rfl)⟩
 |false=>
  simp only[iL,gD];refine aw (ml ?_);rw[p];exact aW ⟨kX a _,fin _ N g _ y x P (by rw[R];rfl)⟩
end
section
variable{Sz:bA}{l:bk}{O:bw}{Sv:ae->ao->Prop}{j:ao}{g f:ae}{o:Bool}{D:ae->ao->Prop}
def Mf(a:O.handled=Y)(b:∀Sr:ao,(∀h n,j.heap.get? h=Z n->Sr.heap.get? h=Z n)->∀(D:ae->ao->Prop) (Sv:ae->ao->Prop),D (.bool o) Sr->wpAny (aS Sz l) O.in1 (nh .Gt f g) D Sv Sr)(e:∀Sq Tb,(∀h n,j.heap.get? h=Z n->Sq.get? h=Z n)->D (if o=X then f else g) {j with heap:=Sq,toks:=Tb}):wpAny (aS Sz l) O (call (.builtin "max") [g,f]) D Sv j:=
 C0 ∅ F.kind_max F.plain_max F.entry_max F.args_max2 F.plain_max_loop F.entry_max_loop a b e
def Kh(a:O.handled=Y)(b:∀Sr:ao,(∀h n,j.heap.get? h=Z n->Sr.heap.get? h=Z n)->∀(D:ae->ao->Prop) (Sv:ae->ao->Prop),D (.bool o) Sr->wpAny (aS Sz l) O.in1 (nh .Lt f g) D Sv Sr)(e:∀Sq Tb,(∀h n,j.heap.get? h=Z n->Sq.get? h=Z n)->D (if o=X then f else g) {j with heap:=Sq,toks:=Tb}):wpAny (aS Sz l) O (call (.builtin "min") [g,f]) D Sv j:=
 C0 ∅ F.kind_min F.plain_min F.entry_min F.args_min2 F.plain_min_loop F.entry_min_loop a b e
end
def yB(O:bw)(j:ao)(y d:ae)(o:Bool):Prop:=(∀(Sz:bA) (l:bk) (Sv:ae->ao->Prop) (D:ae->ao->Prop),D (.bool o) j->wpAny (aS Sz l) O (nh .Gt y d) D Sv j)
section
open PySem.SeqAt
open PySem.AutoSeq1 (wpAny_loadPart')
open PySem.MeetsSeq PySem.MeetsSeq2 PySem.MeetsSeq3
def Rh(k f:af)(S b:Array ae)(p A:Nat)(B D:Option af)(aQ E:Array (Option ae))(SJ:List (Bool×Bool))(R:SJ.length=min S.size b.size):
  Meets (a_.«tuple.__gt__» ⟨[.ref k,.ref f],[]⟩)
   (λO Su j=>j.heap.get? k=Z {cls:=.type "tuple",dict:=B,data:=.seq S p,slots:=aQ}/\j.heap.get? f=Z {cls:=.type "tuple",dict:=D,data:=.seq b A,slots:=E}/\
    (∀i (t:i<S.size) (C:i<b.size) (q:i<SJ.length),EqAt O.in1 j S[i] b[i] (SJ[i]).1/\((SJ[i]).1=ar->yB O.in1 j S[i] b[i] (SJ[i]).2))/\
    Su (.ok<|.ret<|.bool<|hF (decide (b.size<S.size)) SJ) j):=
 .of_wp λSz l O Su j e=>by
  let⟨m,M,s,Tb,P⟩:=j;let@⟨F,G,H,e⟩:=e;have T:=x_;have u:(S.toList.zip b.toList).length=min S.size b.size:=by simp
  wp_walk using wpAny_loadPart' F,wpAny_loadPart' G,nz _ (λdh f Sr=>f.1=Y/\Sr=⟨m,M,s,Tb,P⟩/\∃a,dh=(S.toList.zip b.toList).drop a/\
   Su (.ok<|.ret<|.bool<|hF (decide (b.size<S.size))<|SJ.drop a) ⟨m,M,s,Tb,P⟩) _
  case turn=>
   rintro⟨y,d⟩ dh f Sr ⟨r,rfl,a,g,h⟩;have v:a<(S.toList.zip b.toList).length:=by
    rcases jf a (S.toList.zip b.toList).length with Sq|Sq
    ·exact Sq
    ·rw[nv Sq]at g;cases g
   have U:a<min S.size b.size:=u ▸ v;have t:a<S.size:=⋯
   have C:a<b.size:=⋯
   have q:a<SJ.length:=⋯
   rw[jz v]at g;injection g with w I;have J:y=S[a]:=by have:=congrArg Prod.fst w;simpa using this
   have L:d=b[a]:=by have:=congrArg Prod.snd w;simpa using this
   subst J L;rw[jz q]at h;let@⟨x,z⟩:=H a t C q;generalize SJ[a]=N at h x z;let⟨c,o⟩:=N;refine aw (x Sz l _ _ ?_);cases c with
   |true=>
    have n:Su (.ok<|.ret<|.bool<|hF (decide (b.size<S.size))<|SJ.drop<|a+1) ⟨m,M,s,Tb,P⟩:=h
    wp_walk
    exact⟨rfl,rfl,a+1,I,n⟩
   |false=>
    have n:Su (.ok<|.ret<|.bool o) ⟨m,M,s,Tb,P⟩:=h;have Q:=z rfl Sz l
    wp_walk using Q
    exact⟨_,rfl,by simpa using n⟩
  case fin=>
   rintro⟨dp,di⟩ Sr ⟨r,rfl,a,g,h⟩;simp only at r;subst r;have al:min S.size b.size<=a:=by
    rcases jf a (S.toList.zip b.toList).length with Sq|Sq
    ·rw[jz Sq]at g;cases g
    ·exact u ▸ Sq
   rw[nv ⋯]at h;have n:Su (.ok<|.ret<|.bool<|decide (b.size<S.size)) ⟨m,M,s,Tb,P⟩:=h
   wp_walk
   exact⟨_,rfl,by simpa [a_.Tuple.tupleCompareSizes] using n⟩
  case h=>
   exact⟨rfl,rfl,0,rfl,by simpa using e⟩
end
def kH(J Sx:List ab):List (Bool×Bool):=((J.zip Sx).map λq=>(cy q.1 q.2,bx q.2 q.1))
def JI(g f:ab):ab.beq g f=ab.beq f g:=by
 rw[r2,ab.beq_iff,ab.beq_iff];exact⟨λe=>e.symm,λe=>e.symm⟩
theorem CL:∀{p:Nat}{J Sx:List ab},fw p J Sx=X->hF (decide (Sx.length<J.length)) (kH J Sx)=fY Sx J
 |_,[],[],_=>rfl
 |p,g::u,f::I,e=>by
  rw[fw,cX]at e;show (if cy g f=X then hF (decide (I.length+1<u.length+1)) (kH u I) else bx f g)=fY (f::I) (g::u);rw[fY,(ot e.1).2.2,<-CL e.2,JI,pb.mpr wW]
 |_,[],_::_,_=>rfl
 |_,_::_,[],_=>rfl
def BU{O:bw}{a i:Int}{L v:ae}(b:dS j.heap (.int a) L)(c:dS j.heap (.int i) v):yB O j L v (bx (.int i)<|.int a):=by
 let⟨@I,rfl⟩:=b;let⟨@S5,rfl⟩:=c;intro Sz l Sv D r;rw[bx]at r;exact (RR r:wpAny (aS Sz l) O (d9 .Gt (.int a I)<|.int i S5) D Sv j)
def J8(p:Nat):∀{O:bw}{d y:ab}{L v:ae},eB p d y=X->O.units+p+2<b6->dS j.heap d L->dS j.heap y v->yB O j L v (bx y d):=by
 induction p with
 |zero=>
  intro O d y L v e G b h;rcases rY e with ⟨a,i,rfl,rfl⟩|⟨H,_,_,c,_⟩
  ·exact BU b h
  ·cases c
 |succ p I=>
  intro O d y L v e G b h;rcases rY e with ⟨a,i,rfl,rfl⟩|⟨H,J,Sx,c,rfl,rfl,e⟩
  ·exact BU b h
  cases c;let⟨g,n,SG,@H,rfl,t,C,k,m⟩:=b;let⟨f,S7,B,@M,rfl,o,q,s,u⟩:=h;let⟨cls,P,data,aQ⟩:=n;let⟨an,Q,ap,R⟩:=S7;simp only at C k q s;subst C k q s;have aX:J.length=SG.size:=by rw[m.length,fy]
  have bp:Sx.length=B.size:=by rw[u.length,fy]
  intro Sz l Sv D r;rw[bx,<-CL e,aX,bp]at r;have S:(kH J Sx).length=min SG.size B.size:=by rw[kH,a9,oJ,aX,bp]
  refine DP (op:=.Gt) ⟨_,t,rfl⟩ ⟨_,o,rfl⟩ PySem.F.slot_tuple_gt PySem.F.entry_tuple_gt (PySem.F.args_tuple_gt_2 _ _) (Rh g f SG B H M P Q aQ R (kH J Sx) S)
   ⟨t,o,λi T U al=>?_,show ae.bool (hF (decide (B.size<SG.size))<|kH J Sx)≠ae.notImplemented/\D (.bool<|hF (decide (B.size<SG.size))<|kH J Sx) j from ⟨(λd=>nomatch d),r⟩⟩ ⋯;let⟨@Td,w,x⟩:=m.get (i:=i) (v:=SG[i]) (by rw[gU];simp[T]);let⟨@Te,z,A⟩:=u.get (i:=i) (v:=B[i]) (by rw[gU];simp[U]);have lk:=vY e w z;have E:=ot lk;have am:(kH J Sx)[i]=(cy Td Te,bx Te Td):=by
   have:(kH J Sx)[i]?=Z (cy Td Te,bx Te Td):=by
    rw[kH,gq,(Du (z:=(Td,Te))).mpr ⟨w,z⟩];rfl
   rw[e4 al]at this;exact Option.some.inj this
  rw[am];exact⟨iz p E.1 E.2.1 (by show O.units+1+p+1<b6;lia) x A,λ_=>I lk (by show O.units+1+p+2<b6;lia) x A⟩
section
variable{b:aL}
def Om(f:b.calm=X)(i:b.A.units+20<b6):eA b (.builtin "max") (λw m D=>∃(s c:ab) (v L:aj),w=[v,L]/\eB 6 c s=X/\cD m s v/\cD m c L/\D (if bx s c=X then L else v) m):=by
 intro G j A m w SO D E u e;let⟨s,c,v,@L,rfl,lk,t,C,r⟩:=e;let⟨k,@p,rfl,a,d⟩:=qz u;refine Mf (o:=bx s c) (E.ok.hd f) (λSr o D Sv h=>?_) λSq Tb o=>⟨if bx s c=X then L else v,m,E.kept o,?_,r⟩
 ·exact J8 6 lk (by show b.A.units+1+6+2<b6;lia) ((C.fh E.aY d).keep λg n W W c W W=>o g n c) ((t.fh E.aY a).keep λg n W W c W W=>o g n c) b.prog b.w Sv D h
 ·split
  ·exact d
  ·exact a
def Ig(f:b.calm=X)(i:b.A.units+20<b6):eA b (.builtin "min") (λw m D=>∃(s c:ab) (v L:aj),w=[v,L]/\eB 6 c s=X/\cD m s v/\cD m c L/\D (if bx c s=X then L else v) m):=by
 intro G j A m w SO D E u e;let⟨s,c,v,@L,rfl,lk,t,C,r⟩:=e;let⟨k,@p,rfl,a,d⟩:=qz u;refine Kh (o:=bx c s) (E.ok.hd f) (λSr o D Sv h=>?_) λSq Tb o=>⟨if bx c s=X then L else v,m,E.kept o,?_,r⟩
 ·exact x7 6 lk (by show b.A.units+1+6+2<b6;lia) ((C.fh E.aY d).keep λg n W W c W W=>o g n c) ((t.fh E.aY a).keep λg n W W c W W=>o g n c) b.prog b.w Sv D h
 ·split
  ·exact d
  ·exact a
def qH:h2:=(λJ=>match J with
 |[.im (.int a),.im<|.int i]=>xg [.im (.int a),.im<|.int i]
 |[.im (.tup g),.im<|.tup f]=>if eB 6 (.tup f) (.tup g)=X then Z (.im<|if bx (.tup g) (.tup f)=X then .tup f else .tup g) else Y
 |_=>Y)
def r3:h2:=(λJ=>match J with
 |[.im (.int a),.im<|.int i]=>yh [.im (.int a),.im<|.int i]
 |[.im (.tup g),.im<|.tup f]=>if eB 6 (.tup f) (.tup g)=X then Z (.im<|if bx (.tup f) (.tup g)=X then .tup f else .tup g) else Y
 |_=>Y)
def HD(d:b.calm=X)(h:b.A.units+20<b6):hu b (.builtin "max") qH:=by
 intro G j A m w SO D E u k;let⟨J,@s,e,c,r⟩:=k;unfold qH at c;split at c
 ·exact Ou d G j A m w SO D E u ⟨_,s,e,c,r⟩
 ·split at c
  ·rename_i g f lk;cases c;let⟨v,@L,rfl,t,C⟩:=zq e;refine Om d h G j A m _ SO D E u ⟨_,_,v,L,rfl,lk,t,C,cb.i r ?_⟩;split
   ·exact C
   ·exact t
  ·cases c
 ·cases c
def Ml(d:b.calm=X)(h:b.A.units+20<b6):hu b (.builtin "min") r3:=by
 intro G j A m w SO D E u k;let⟨J,@s,e,c,r⟩:=k;unfold r3 at c;split at c
 ·exact NG d G j A m w SO D E u ⟨_,s,e,c,r⟩
 ·split at c
  ·rename_i g f lk;cases c;let⟨v,@L,rfl,t,C⟩:=zq e;refine Ig d h G j A m _ SO D E u ⟨_,_,v,L,rfl,lk,t,C,cb.i r ?_⟩;split
   ·exact C
   ·exact t
  ·cases c
 ·cases c
end
mutual
def ti:ab->qe
 |.int a=>.int a
 |.av f=>.bool f
 |.str d=>.str d
 |.tup J=>.tuple (p5 J)
 |_=>.none
def p5:List ab->List qe
 |[]=>[]
 |s::u=>ti s::p5 u
end
mutual
theorem L0{e:a5}:∀{p:Nat}{s:ab}{L:ae},ab.bD p s=X->dS e s L->Reads e L (ti s) []
 |_,.aV,L,_,c=>by cases (show L=.none from c);exact .none
 |_,.av f,L,_,c=>by cases (show L=.bool f from c);exact .bool f
 |_,.int a,L,_,c=>by let⟨@I,rfl⟩:=c;exact .int a I
 |_,.str d,L,_,c=>by let⟨@I,rfl⟩:=c;exact .str d I
 |p+1,.tup J,L,o,c=>by
  let⟨g,n,S,@H,rfl,t,C,b,h⟩:=c;exact .tuple t C b (E9 (p:=p) o h)
 |0,.tup J,L,o,c=>by cases o
 |p,.fn g,L,o,c=>by cases p<;>cases o
 |p,.aT g,L,o,c=>by cases p<;>cases o
 |p,.fd,L,o,c=>by cases p<;>cases o
theorem E9{e:a5}:∀{p:Nat}{J:List ab}{SO:List ae},ab.du p J=X->d0 e J SO->ReadsAll e SO (p5 J) []
 |_,[],SO,_,c=>by rw[show SO=[] from c];exact .nil
 |p,s::J,SO,o,c=>by
  let⟨v,@u,rfl,t,C⟩:=c;rw[ab.du,cX]at o;exact .cons (L0 o.1 t) (E9 o.2 C)
end
mutual
theorem Qq:∀s:ab,qe.hasDict (ti s)=ar
 |.aV=>rfl
 |.av _=>rfl
 |.int _=>rfl
 |.str _=>rfl
 |.fn _=>rfl
 |.aT _=>rfl
 |.fd=>rfl
 |.tup J=>EZ J
theorem EZ:∀J:List ab,qe.hasDictAll (p5 J)=ar
 |[]=>rfl
 |s::u=>by
  show (qe.hasDict (ti s) || PyData.hasDictAll (p5 u))=ar;rw[Qq s,EZ u];rfl
end
section
variable{Sz:bA}{l:bk}{O:bw}{Sv:ae->ao->Prop}{j:ao}
theorem Dk{it I:af}{S:Array ae}(e:I≠it):∀(p a:Nat) (j:ao) (D:List ae->ao->Prop),j.heap.IsListIter it I a->j.heap.IsList I S->a+p<=S.size->
  (∀Sq,Sq.IsListIter it I (a+p)->a5.SameBut it j.heap Sq->D ((S.toList.drop a).take p) {j with heap:=Sq})->wpAny (aS Sz l) O (draw (.ref it) p) D Sv j
 |0,a,j,D,b,_,_,c=>by
  show wpAny _ _ (pure []) D Sv j;exact aW ⇑(c j.heap b (a5.SameBut.refl ..))
 |p+1,a,j,D,b,f,o,c=>by
  have g:a<S.size:=⋯
  show wpAny _ _ (hK (.ref it) >>= _) D Sv j;refine aw (G8 b f (x:=S[a]) (by simp[g]) λq i h=>?_);refine aw (fB (Dk e p (a+1) _ _ i (f.extBut h.extBut e) ⋯ λk m n=>aW ?_));have hd:S.toList.drop a=S[a]::S.toList.drop (a+1):=by simp[jz,g]
  have:=c k (by rw[show a+(p+1)=a+1+p by lia];exact m) (h.trans n);rw[hd,G1]at this;exact this
def QZ{D:List ae->ao->Prop}(g:O.handled=Y)(a:j.heap.IsList I S)(h:∀Sq,a5.ExtBut j.heap.objs.size j.heap Sq->D S.toList {j with heap:=Sq}):wpAny (aS Sz l) O (unpackItems (.ref I) S.size Y) D Sv j:=by
 have b:I≠j.heap.objs.size:=by let⟨@n,i,W⟩:=a;exact dU (cn i)
 unfold unpackItems;refine aw ?_
 ·unfold notIterableAtAll;refine aw (mK a.typeIs F.slot_list_iter.lookup ?_);refine aW ?_;simp only[iL,gD];refine aw (fB<|rS a ?_);refine aw (fB (Dk b S.size 0 _ _ ⟨_,dx _ rfl,rfl,rfl⟩ (a.push _) ⋯ λk m d=>?_));have o:List.take S.size (List.drop 0 S.toList)=S.toList:=by
   rw[lu];exact qx ↥0
  rw[o];rw[aM ↥0];have p:k.IsList I S:=(a.push _).extBut d.extBut b;refine aw (fB (EN g m p ↥0 λq r=>?_));simp only[Option.isSome_none,iL,gD];refine aW (h q λf n e c=>r f n e<|d.extBut f n e<|cw _ c)
def Kq{Sw:eL}{a:List bu}{b}{D:Unit->ao->Prop}(c:O.handled=Y)(d:j.heap.IsList I S)(f:(fe a Sw).length=S.size)(g:(fe a Sw).findIdx? (·.1)=Y)(e:∀Sq,a5.ExtBut j.heap.objs.size j.heap Sq->wpAny (aS Sz l) O (EU ((fe a Sw).map (·.2)) S.toList) D Sv {j with heap:=Sq}):
  wpAny (aS Sz l) O (ig (.Tuple a b SK) Sw<|.ref I) D Sv j:=by
 rw[assign_Tuple];refine aw (t4 ?_);unfold unpack;rw[f,g];exact aw (fB<|QZ c d e)
end
section
variable{b:aL}
def O2(So:Φ)(p:Nat)(I:jq):gg:=(λv A m D=>∃g w,v=.ref g/\dk So m g w/\w.length=p/\I w A m D)
variable{o:Nat}
def ID{I:jq}(h:b.calm=X)(e:n4 b Sx I)(i:(fe Sx b.env).length=p:=by rfl)(k:(fe Sx b.env).findIdx? (·.1)=Y:=by rfl):jw b (.Tuple Sx o SK) (O2 b.K p I):=by
 intro G j A m v L D E u a;let⟨g,@w,l,q,r,a⟩:=a;subst l;cases u;let⟨@SG,d,s,y⟩:=E.list q;refine Kq (E.ok.hd h) s.isList (by simp[i,<-r,d.length]) k λSq t=>?_;have x:aH b G A m {j with heap:=Sq}:=E.kept (S5:=j.toks) λf n c=>t f n (dU<|cn c) c;exact e G _ A m w _ D x ⇑d a
@[simp] def sU(p:Nat)(e:List ak->a7->Option a7):fp:=λs B=>match s with
 |.lst is=>if is.length=p then e (is.map .im) B else Y
 |_=>Y
def OG{SX:List Nat}{e:List ak->a7->Option a7}(i:b.calm=X)(k:qi b SX Sx e)(l:(fe Sx b.env).length=p:=by rfl)(q:(fe Sx b.env).findIdx? (·.1)=Y:=by rfl):hv b SX (.Tuple Sx o SK) (sU p e):=by
 refine vk (ID i k l q) λv A m D u=>?_;let⟨B,N,s,Su,@SR,z,x,ah,a,r⟩:=u;unfold sU at a;split at a
 ·rename_i is;split at a
  ·rename_i y;let⟨g,@w,rfl,t,C,rfl⟩:=x;have E:=df.mp ah;refine⟨g,w,rfl,dk.of t,by rw[<-C.length];exact y,B,N,_,[],SR,z,zt C,by rw[cB];exact E.1,a,λF T S3 Tp G j=>r F T S3 Tp G ?_⟩;rw[cB]at j;exact⟨λf n c d=>j.keep f n c λh=>d<|dK _ h,λf d=>(j.sub f d).imp (λh=>dK _ h) id,j.ah,j.tup,j.grow⟩
  ·cases a
 ·cases a
end
end L2
namespace G
open L2
variable{Tf Tt Tz O T S_ Tn E b S0:Option ak}{l H:Int}{F SH:List (Int×Int)}{h f g:Int×Int}{o:List ab}{SF:List (List ab×ab)}{e:ak}{p:Nat}
def pU:bH:=((bZ 2<|aF hB (ai<|aF e0 (ai<|aF e0 (ai<|aF iT (ag 2)<|ai<|aE<|.int 69621)<|ai<|aF hB (ag 3)<|ai<|aE<|.int 2147483587)<|ai<|aE<|.int 13)<|ai<|aE<|.int 2305843009213693951))
def AN:bH:=((bt (bZ 2<|aF e0 (ai<|aE<|.int 7)<|ai<|aF iT (ai<|aE<|.int 7919)<|ag 1)<|bt (gj (b4<|ai<|iy (ag 0) jc<|iJ<|aE<|.int 63) (a0 3) G.pU)<|bt (bZ 3<|xO (a8<|aF pa (ai<|bQ dd<|aq (ag 0) aB)<|ai<|aE<|.int 0) (aF bR (ag 0)<|ai<|aF hB (ag 1)<|ai<|bQ dd<|aq (ag 0) aB)<|aE<|.int 0)<|bt (bZ 4<|aF iT (ai<|aF iT (ai<|aF se (ai<|aE<|.int 10)<|ai<|aE<|.int 60)<|ai<|aF se (ai<|aE<|.int 10)<|ai<|aE<|.int 60)<|ai<|aF se (ai<|aE<|.int 10)<|ai<|aE<|.int 60)<|cF<|eV<|aq (ai<|aF iT (ai<|aF hB (ag 3)<|ag 4)<|ai<|bQ vInt<|aq (ai<|aF Gi (ag 3)<|ai<|aF se (ai<|aE<|.int 10)<|ai<|aE<|.int 18) aB)<|aq (ag 2)<|aq (ai<|aE<|.int 0) aB))
def mU:c0:=(c_ 2 5 [0,1] AN)
def y6:bH:=((bt (dy (a8<|aF pa (ai<|aF bR (ag 0)<|ai<|aE<|.int 0)<|ai<|aE<|.int 0) (bt (bZ 2<|aF hB (ai<|aF bR (ag 0)<|ai<|aE<|.int 0)<|ag 1)<|bt (gW (aF mi (ai<|aF bR (ag 0)<|ai<|aE<|.int 0)<|ag 1)<|i7 0 (aE<|.int 0) pK)<|cF<|et 2) en)<|bt (gW (aF e0 (ai<|aF bR (ag 0)<|ai<|aE<|.int 2)<|ai<|aE<|.int 1)<|i7 0 (aE<|.int 2) pK)<|bt (bZ 3<|aF hB (ai<|aF iT (ai<|aF e0 (ai<|aF bR (ag 0)<|ai<|aE<|.int 1)<|ai<|aF iT (ai<|aF bR (ag 0)<|ai<|aE<|.int 2)<|ai<|aE<|.int 104729)<|ai<|aE<|.int 48271)<|ai<|aE<|.int 2305843009213693951)<|bt (gW (aF hB (ai<|aF iT (ag 3)<|ai<|aF e0 (ai<|aF hB (ag 3)<|ai<|aE<|.int 1009)<|ai<|aE<|.int 69621)<|ai<|aE<|.int 2305843009213693951)<|i7 0 (aE<|.int 1) pK)<|cF<|aF hB (ai<|aF mi (ai<|aF bR (ag 0)<|ai<|aE<|.int 1)<|ai<|aE<|.int 1000003)<|ag 1))
def fQ:c0:=(c_ 2 4 [0,1] y6)
def Co:bH:=((cF<|eV<|aq (ai<|dY<|aq (ai<|aF p4 (ai<|aF bR (ag 0)<|ai<|aE<|.int 0)<|ai<|aE<|.int 1)<|aq (ai<|aF bR (ag 0)<|ai<|aE<|.int 1) aB)<|aq (ai<|dY<|aq (ai<|aF bR (ag 0)<|ai<|aE<|.int 0)<|aq (ai<|aF p4 (ai<|aF bR (ag 0)<|ai<|aE<|.int 1)<|ai<|aE<|.int 1) aB)<|aq (ai<|dY<|aq (ai<|aF bR (ag 0)<|ai<|aE<|.int 0)<|aq (ai<|aF e0 (ai<|aF bR (ag 0)<|ai<|aE<|.int 1)<|ai<|aE<|.int 1) aB)<|aq (ai<|dY<|aq (ai<|aF e0 (ai<|aF bR (ag 0)<|ai<|aE<|.int 0)<|ai<|aE<|.int 1)<|aq (ai<|aF bR (ag 0)<|ai<|aE<|.int 1) aB) aB))
def mH:c0:=(c_ 1 1 [0] Co)
def tj:aA ak:=((dY<|aq (ag 0)<|aq (ai<|aE<|.av X) aB))
def nC:bH:=((dy (d5 (a8<|aF eG (ag 5)<|ag 2)<|a8<|aF eY (ag 5)<|ag 3) (bt (gW (aE<|.av X)<|i7 3 (et 5) gN)<|ie<|gw hj 4 kP<|aq (ag 5) aB) en))
def wI:aA Bool:=((a8<|aF hn (ag 4)<|ai<|eV aB))
def zz:bH:=((gj (b4<|ai<|bq 1 G.mH<|aq (ai<|gw hj 4 qX aB) aB) (a0 5) G.nC))
def DB:bH:=((bt (bZ 2<|bQ ob<|aq (ai<|b1 1 [] (b4<|ag 0) (a0 0) cP G.tj) aB)<|bt (bZ 3<|vq (et 1)<|aE<|.av X)<|bt (bZ 4<|eV<|aq (ag 1) aB)<|bt (il G.wI G.zz 1000000)<|cF<|bQ gY<|aq (ai<|bQ hD<|aq (ag 3) aB) aB))
def sx:c0:=(c_ 2 6 [0,1] DB)
def uB:bH:=((bt (bZ 4<|aF bR (ai<|bq 1 G.mH<|aq (ai<|aF bR (ag 2)<|ai<|bq 2 G.fQ<|aq (ag 0)<|aq (ai<|bQ dd<|aq (ag 2) aB) aB) aB)<|ai<|bq 2 G.fQ<|aq (ag 0)<|aq (ai<|aE<|.int 4) aB)<|dy (d5 (a8<|aF eY (ag 4)<|ag 2)<|d5 (a8<|h5 fR fR (ai<|aE<|.int 0) (ai<|aF bR (ag 4)<|ai<|aE<|.int 0)<|ai<|aE<|.int 24)<|a8<|h5 fR fR (ai<|aE<|.int 0) (ai<|aF bR (ag 4)<|ai<|aE<|.int 1)<|ai<|aE<|.int 24) (ie<|gw hj 2 kP<|aq (ag 4) aB) en))
def GN:bH:=((bt (bZ 2<|eV<|aq (ai<|dY<|aq (ai<|aE<|.int 12)<|aq (ai<|aE<|.int 12) aB) aB)<|bt (gj (je<|aq (ai<|bq 2 G.fQ<|aq (ag 0)<|aq (ag 1) aB) aB) (a0 3) G.uB)<|cF<|et 2))
def oo:c0:=(c_ 2 5 [0,1] GN)
def yV:aA ak:=((dY<|aq (ai<|aF mi (ag 0)<|ag 1)<|aq (ai<|aF hB (ag 0)<|ag 1) aB))
def o1:bH:=((ie<|gw hj 5 ro<|aq (ai<|bq 2 G.fQ<|aq (ag 0)<|aq (ai<|bQ dd<|aq (ag 5) aB) aB) aB))
def xx:aA ak:=((et 0))
def sE:aA Bool:=((a8<|aF er (ai<|aF iT (ai<|aF hB (ai<|aF bR (ag 0)<|ai<|aE<|.int 0)<|ai<|aE<|.int 2)<|ai<|aF hB (ai<|aF hB (ai<|aF bR (ag 0)<|ai<|aE<|.int 1)<|ai<|aE<|.int 3)<|ai<|aE<|.int 2)<|ai<|aE<|.int 0))
def m9:aA ak:=((aF bR (ai<|eV<|aq (ai<|aE<|.int 0)<|aq (ai<|aE<|.int 0)<|aq (ai<|aE<|.int 6)<|aq (ai<|aE<|.int 3) aB)<|ai<|bq 2 G.fQ<|aq (ag 1)<|aq (ai<|aE<|.int 4) aB))
def uY:aA ak:=((dY<|aq (ai<|aF e0 (ai<|aF bR (ag 0)<|ai<|aE<|.int 0)<|ag 1)<|aq (ai<|aF e0 (ai<|aF bR (ag 0)<|ai<|aE<|.int 1)<|ag 2) aB))
def EO:bH:=((bt (bZ 2<|bq 2 G.fQ<|aq (ag 0)<|aq (ai<|aE<|.int 6) aB)<|bt (bZ 3<|aF e0 (ai<|aE<|.int 1)<|ai<|bq 2 G.fQ<|aq (ag 0)<|aq (ai<|aE<|.int 7) aB)<|bt (bZ 4<|aF e0 (ai<|aE<|.int 1)<|ai<|bq 2 G.fQ<|aq (ag 0)<|aq (ai<|bQ qH<|aq (ai<|aE<|.int 1)<|aq (ai<|bQ r3<|aq (ai<|aE<|.int 7)<|aq (ai<|aF mi (ag 1)<|ag 3) aB) aB) aB)<|bt (bZ 5<|b1 1 [3] (je<|aq (ai<|aF iT (ag 4)<|ag 3) aB) (a0 0) cP G.yV)<|bt (dy (fG (a8<|aF er (ag 2)<|ai<|aE<|.int 1)<|a8<|aF er (ag 2)<|ai<|aE<|.int 2) (gj (je<|aq (ai<|bq 2 G.fQ<|aq (ag 0)<|aq (ai<|aF e0 (ai<|aE<|.int 1)<|ai<|aF mi (ai<|bQ dd<|aq (ag 5) aB)<|ai<|aE<|.int 2) aB) aB) (a0 6) G.o1)<|dy (a8<|aF er (ag 2)<|ai<|aE<|.int 3) (bZ 5<|b1 1 [] (b4<|ag 5) (a0 0) G.sE G.xx)<|dy (a8<|aF pa (ag 2)<|ai<|aE<|.int 3) (bZ 5<|bq 2 G.oo<|aq (ag 0)<|aq (ag 1) aB) en)<|bt (bZ 7<|bq 2 G.sx<|aq (ag 5)<|aq (ai<|aF bR (ag 5)<|ai<|bq 2 G.fQ<|aq (ag 0)<|aq (ai<|bQ dd<|aq (ag 5) aB) aB) aB)<|bt (gW (b1 1 [0] (je<|aq (ai<|aE<|.int 2) aB) (a0 0) cP G.m9)<|sU 2<|dT (a0 8)<|dT (a0 9) gJ)<|cF<|bQ gY<|aq (ai<|b1 1 [8,9] (b4<|ag 7) (a0 0) cP G.uY) aB))
def oT:c0:=(c_ 2 10 [0,1] EO)
def V(q:Int×Int):ab:=(.tup [.int q.1,.int q.2])
abbrev aC(SJ:List (Int×Int)):ak:=.im (.tup<|SJ.map V)
abbrev aN(SJ:List (Int×Int)):ak:=.lst (SJ.map V)
abbrev qJ(s j I:Int):ak:=.lst [.int s,.int j,.int I]
def ei(p:Nat)(e:ak):Prop:=(∃s j I,e=qJ s j I/\0<=s/\0<=j/\j<2^62/\0<=I/\I+p<2^40)
def ei.mono{H:Nat}(d:ei p e)(c:H<=p):ei H e:=by
 let⟨s,j,@I,rfl,t,C,a,b,f⟩:=d;exact⟨s,j,I,rfl,t,C,a,b,⋯⟩
def ei.lst(d:ei p e):∃r,e=.lst r:=by
 let⟨s,j,@I,rfl,W⟩:=d;exact⟨_,rfl⟩
def jk(d:ei (p+1) e)(b:0<H)(g:H<1073741824):∃v Sq,fQ [e,aI H]=Z (aI v,[Sq,aI H])/\0<=v/\v<H/\ei p Sq:=by
 let⟨s,j,@I,rfl,t,C,h,i,y⟩:=d;have z:∀s:Int,dH [ab.int s,.int j,.int I] 0=Z (.int s):=λs=>rfl;have A:¬ H=0:=⋯
 by_cases hd:0<s
 ·refine⟨s%H,qJ (s/H) j I,?_,lO _ ⋯,mQ _ b,s/H,j,I,rfl,Es t ⋯,C,h,i,⋯⟩;have c:dH [ab.int s,.int j,.int I] 0=Z (.int s):=rfl;simp -implicitDefEqProofs [fQ,y6,hd,b,g,c,jA]
 ·obtain⟨a,k⟩:∃a:Int,a=(j+(I+1)*104729)*48271%2305843009213693951:=⟨_,rfl⟩;obtain⟨Sr,f⟩:∃Sr:Int,Sr=a*(a%1009+69621)%2305843009213693951:=⟨_,rfl⟩;have l:0<=Sr:=by rw[f];exact lO _ ∅
  have m:Sr<2^62:=by
   rw[f];have:=mQ (a*(a%1009+69621)) (show (0:Int)<2305843009213693951 by decide);lia
  have n:hq (I+1) 104729=X:=m7 ∅ ∅;have o:hq (j+(I+1)*104729) 48271=X:=m7 ∅ ∅;have q:hq a (a%1009+69621)=X:=by
   have B:=lO a (show (1009:Int)≠0 by decide);have D:=mQ a (show (0:Int)<1009 by decide);exact m7 ⋯ ⋯
  refine⟨Sr/1000003%H,qJ s Sr<|I+1,?_,lO _ ⋯,mQ _ b,s,Sr,I+1,rfl,t,l,m,⋯,⋯⟩;have c:dH [ab.int s,.int j,.int I] 0=Z (.int s):=rfl;have r:dH [ab.int s,.int j,.int I] 2=Z (.int I):=rfl;have u:dH [ab.int s,.int j,.int<|I+1] 1=Z (.int j):=rfl;have w:dH [ab.int s,.int j,.int<|I+1] 2=Z (.int<|I+1):=rfl;have x:dH [ab.int s,.int Sr,.int<|I+1] 1=Z (.int Sr):=rfl;simp -implicitDefEqProofs [fQ,y6,hd,b,g,c,r,u,w,x,jA,n,o,q,<-k,<-f]
theorem Gr:∀(w:List Int) (b E Tf S0:Option ak) (j:Int),0<=j->j<2^62->∃c Sr,0<=Sr/\Sr<2^62/\d3 (a0 3) pU (w.map .int) [b,E,Z<|aI j,Tf,S0]=Z (.bo,[b,E,Z<|aI Sr,c,S0])
 |[],b,E,Tf,S0,j,f,t=>⟨Tf,j,f,t,rfl⟩
 |d::w,b,E,Tf,S0,j,f,t=>by
  obtain⟨a,e⟩:∃a:Int,a=(j*69621+d%2147483587+13)%2305843009213693951:=⟨_,rfl⟩;have g:0<=a:=by rw[e];exact lO _ ∅
  have h:a<2^62:=by
   rw[e];have:=mQ (j*69621+d%2147483587+13) (show (0:Int)<2305843009213693951 by decide);lia
  let⟨c,@Sr,i,k,l⟩:=Gr w b E (Z<|aI d) S0 a g h;refine⟨c,Sr,i,k,?_⟩;have m:hq j 69621=X:=m7 ∅ ∅;rw[cE,d3];dsimp only;rw[show a0 3 (.im<|.int d) [b,E,Z<|aI j,Tf,S0]=Z [b,E,Z<|aI j,Z<|aI d,S0] from rfl];show (pU _).bind _=_;rw[show pU [b,E,Z<|aI j,Z<|aI d,S0]=Z (.bo,[b,E,Z<|aI a,Z<|aI d,S0]) by simp -implicitDefEqProofs [pU,m,<-e]];exact l
def NO{Q:List Int}{o:Int}(A:0<=o)(B:o<1000):∃e,mU [.cY (Q.map .int),aI o]=Z (e,[.cY (Q.map .int),aI o])/\ei 1000000 e:=by
 obtain⟨w,g⟩:∃w,gy (Q.map ab.int) Y (Z 63)=w.map .int:=⟨gy Q Y<|Z 63,wL _ _ _ _⟩;let⟨Tf,@j,R,k,l⟩:=Gr w (Z<|.cY<|Q.map .int) (Z<|aI o) Y Y (7+7919*o) ⋯ ⋯;have m:hq 7919 o=X:=Iy ∅ ∅;have p:hq (10^60) (10^60)=X:=by decide +kernel
 have Tj:hq (10^60*10^60) (10^60)=X:=by decide +kernel
 have q:∀d h:Int,hq d (if 10^18<=h then 1 else 0)=X:=λd h=>m7 (by split<;>decide) (by split<;>decide);have f:(10:Nat)<2^64:=by decide
 have r:(0:Int)<10^60*10^60*10^60:=by decide
 have P:∀h:Int,ei 1000000 (qJ (h%(10^60*10^60*10^60)*(if 10^18<=h then 1 else 0)) j 0):=λh=>by
  have t:=lO h (show (10^60*10^60*10^60:Int)≠0 by decide);refine⟨_,_,_,rfl,?_,R,k,jX 0,by decide⟩;split
  ·rw[Dx];exact t
  ·rw[Int.mul_zero];exact jX 0
 have s:bZ 2 (aF e0 (ai<|aE<|.int 7)<|ai<|aF iT (ai<|aE<|.int 7919)<|ag 1) [Z (.cY<|Q.map .int),Z<|aI o,Y,Y,Y]=Z (.bo,[Z (.cY<|Q.map .int),Z<|aI o,Z<|aI<|7+7919*o,Y,Y]):=by
  simp -implicitDefEqProofs [m]
 have u:gj (b4<|ai<|iy (ag 0) jc<|iJ<|aE<|.int 63) (a0 3) G.pU [Z (.cY<|Q.map .int),Z<|aI o,Z<|aI<|7+7919*o,Y,Y]=Z (.bo,[Z (.cY<|Q.map .int),Z<|aI o,Z<|aI j,Tf,Y]):=
  (sX (n:=Y) (w:=w.map .int) (Sy:=[Z (.cY<|Q.map .int),Z<|aI o,Z<|aI<|7+7919*o,Y,Y]) (by simp -implicitDefEqProofs [g]) l).trans rfl;have dh:∀h:Int,bZ 3 (xO (a8<|aF pa (ai<|bQ dd<|aq (ag 0) aB)<|ai<|aE<|.int 0) (aF bR (ag 0)<|ai<|aF hB (ag 1)<|ai<|bQ dd<|aq (ag 0) aB)<|aE<|.int 0) [Z (.cY<|Q.map .int),Z<|aI o,Z<|aI j,Tf,Y]=Z (.bo,[Z (.cY<|Q.map .int),Z<|aI o,Z<|aI j,Z<|aI h,Y])->
   ∃e,mU [.cY (Q.map .int),aI o]=Z (e,[.cY (Q.map .int),aI o])/\ei 1000000 e:=λh a=>by
  refine⟨_,?_,P h⟩;unfold mU AN;refine sk [Z (.cY<|Q.map .int),Z<|aI o,Z<|aI j,Z<|aI h,Z<|aI<|10^60*10^60*10^60] rfl ((ht s).trans<|(ht u).trans<|(ht a).trans<|(ht (Sy:=[Z (.cY<|Q.map .int),Z<|aI o,Z<|aI j,Z<|aI h,Z<|aI<|10^60*10^60*10^60]) ?_).trans ?_) rfl
  ·simp -implicitDefEqProofs [p,Tj,f,-Int.reducePow,-Nat.reducePow]
  ·simp -implicitDefEqProofs [q,f,r,-Int.reducePow,-Nat.reducePow]
 by_cases v:0<(Q.length:Int)
 ·obtain⟨i,b⟩:∃i:Int,i=o%(Q.length:Int):=⟨_,rfl⟩;have x:0<=i:=by rw[b];exact lO _ ⋯
  have C:i<Q.length:=by rw[b];exact mQ _ v
  obtain⟨h,a⟩:∃h,Q[i.toNat]?=Z h:=⟨Q[i.toNat]'⋯,by simp⟩;have y:dH (Q.map ab.int) i=Z (.int h):=rF x (by rw[gq,a];rfl);refine dh h ?_;have z:0<Q.length:=⋯
  simp -implicitDefEqProofs [z,<-b,y]
 ·refine dh 0 ?_;have c:Q=[]:=yu.mp ⋯;subst c;simp -implicitDefEqProofs
def cV(q:Int×Int):List (Int×Int):=([(q.1-1,q.2),(q.1,q.2-1),(q.1,q.2+1),(q.1+1,q.2)])
def wJ(q:Int×Int):mH [.im (V q)]=Z (aN<|cV q,[.im (V q)]):=by
 have a:dH [ab.int q.1,.int q.2] 0=Z (.int q.1):=rfl;have b:dH [ab.int q.1,.int q.2] 1=Z (.int q.2):=rfl;simp -implicitDefEqProofs [mH,Co,V,cV,a,b]
def c9(q:Int×Int):List ab:=([.int q.1,.int q.2])
def oI(q:Int×Int):V q=.tup (c9 q):=rfl
def oL(e:c9 g=c9 f):g=f:=by
 unfold c9 at e;simp at e;exact zB e.1 e.2
def DZ(e:V g=V f):g=f:=by
 rw[oI,oI]at e;exact oL (by injection e)
def nN(q:Int×Int):ab.keys 7 (c9 q)=X:=rfl
def nk:ab->Int×Int
 |.tup [.int g,.int f]=>(g,f)
 |_=>(0,0)
def xT(q:Int×Int):nk (V q)=q:=rfl
def nW(q:Int×Int):ab.bD 8 (V q)=X:=rfl
theorem qR:∀SJ:List (Int×Int),ab.du 8 (SJ.map V)=X
 |[]=>rfl
 |q::u=>by rw[cE,ab.du,nW,qR u];rfl
def sJ(g f:Int×Int):cy (V g) (V f)=decide (g=f):=by
 show ((g.1==f.1)&&((g.2==f.2)&&X))=_;let⟨a,b⟩:=g;let⟨dp,di⟩:=f;by_cases t:a=dp<;>by_cases C:b=di<;>simp[t,C]
def BD(SJ:List (Int×Int))(h:Int×Int):((SJ.map V).any λd=>cy d<|V h)=decide (h∈SJ):=by
 rw[ta,r2,ph,hO];constructor
 ·rintro⟨d,a,c⟩;have:decide (d=h)=X:=by rw[<-sJ];exact c
  rw[<-hz this];exact a
 ·intro e;refine⟨h,e,?_⟩;show cy (V h) (V h)=X;rw[sJ];exact dw rfl
theorem CJ:∀(k:List ab) (SH:List (Int×Int)),(∀d∈k,d∈SH.map V)->k=(k.map nk).map V
 |[],_,_=>rfl
 |d::k,SH,e=>by
  let⟨@q,W,c⟩:=cH.mp (e d<|.head _);rw[cE,cE,<-CJ k SH λy a=>e y<|.tail _ a,<-c,xT]
def Ca{k:List ab}(e:k.Perm (SH.map V)):∃a:List (Int×Int),a.Perm SH/\k=a.map V:=by
 refine⟨k.map nk,?_,CJ k SH λd b=>e.mem_iff.mp b⟩;have:=Gf nk e;rw[gf]at this;have c:(nk ∘ V:Int×Int->Int×Int)=id:=funext xT;rw[c,ri]at this;exact this
def w7(ah:SH.Nodup)(a:SH.length<=1000):nD (SH.map V):=by
 refine⟨⟨by rw[a9];exact a,λg b f e=>?_,?_⟩,.inl λs hd=>?_⟩
 ·let⟨@d,W,rfl⟩:=cH.mp b;let⟨@y,W,rfl⟩:=cH.mp e;rfl
 ·exact I1 V (λg f p c=>p<|DZ c) ah
 ·let⟨@d,W,rfl⟩:=cH.mp hd;rfl
def rC:(d8 SF o).isSome=SF.any λq=>decide (q.1=o):=by
 unfold d8;rw[s7,List.isSome_find?]
def Lq{a:List ab}{s:ab}:((fv SF o s).any λq=>decide (q.1=a))=((SF.any λq=>decide (q.1=a)) || decide (o=a)):=by
 unfold fv;split
 ·rename_i e;have c:((SF.map λb=>if b.1=o then (b.1,s) else b).any λq=>decide (q.1=a))=SF.any λq=>decide (q.1=a):=by
   rw[ta];congr 1;funext q;show decide ((if q.1=o then (q.1,s) else q).1=a)=_;split<;>rfl
  rw[c];by_cases d:o=a
  ·subst d;rw[e];rfl
  ·rw[dm d,Bool.or_false]
 ·rw[List.any_append];simp
theorem GX:∀(SJ a:List (List ab×ab)) (o:List ab),((SJ.foldl (λg q=>fv g q.1 q.2) a).any λq=>decide (q.1=o))=((a.any λq=>decide (q.1=o)) || SJ.any λq=>decide (q.1=o))
 |[],a,o=>by simp
 |q::SJ,a,o=>by
  rw[jj,GX SJ _ o,Lq,l1,Bool.or_assoc]
def aU(SH:List (Int×Int)):List (List ab×ab):=(SH.map λh=>(c9 h,.av X))
def sO(SH:List (Int×Int))(h:Int×Int):((aU SH).any λq=>decide (q.1=c9 h))=decide (h∈SH):=by
 unfold aU;rw[ta,r2,ph,hO];constructor
 ·rintro⟨d,a,c⟩;have:c9 d=c9 h:=hz c;rw[<-oL this];exact a
 ·intro e;exact⟨h,e,dw rfl⟩
def HY(F:List (Int×Int))(h:Int×Int):(d8 (hh<|aU F)<|c9 h).isSome=decide (h∈F):=by
 rw[rC];unfold hh;rw[GX,sO];rfl
def wX(SH:List (Int×Int))(h:Int×Int):(d8 (aU SH)<|c9 h).isSome=decide (h∈SH):=by rw[rC,sO]
def AS(e:h∉SH):fv (aU SH) (c9 h) (.av X)=aU (SH++[h]):=by
 unfold fv;rw[aM (by rw[sO];simpa using e)];unfold aU;rw[eF];rfl
def O9(F:List (Int×Int)):lG (F.map λh=>.tup [V h,.av X])=Z (aU F):=by
 induction F with
 |nil=>rfl
 |cons h u a=>
  rw[cE,oI,lG,a];rfl
def QR(SH:List (Int×Int)):((aU SH).map λq=>ab.tup q.1)=SH.map V:=by
 unfold aU;rw[gf];rfl
def Kw(SH:List (Int×Int)):((aU SH).all λq=>ab.keys 7 q.1)=X:=by
 unfold aU;rw[wZ,kz];intro h W;rfl
def i6(F SH:List (Int×Int)):Nat:=(F.countP λh=>decide (h∉SH))
def Pl(t:h∈F)(C:h∉SH):i6 F (SH++[h])<i6 F SH:=by
 unfold i6;refine yN (λd b c=>?_) ⟨h,t,dw C,dm λa=>a<|dQ _<|.head _⟩;exact dw λa=>hz c (dK _ a)
def BV{SU:Type}{Ta:List SU}(e:Ta≠[]):∃a l,Ta=a++[l]:=⟨Ta.dropLast,Ta.getLast e,(List.dropLast_concat_getLast e).symm⟩
def v3(q:Int×Int):dH [ab.int q.1,.int q.2] 0=Z (.int q.1):=rfl
def mj(q:Int×Int):dH [ab.int q.1,.int q.2] 1=Z (.int q.2):=rfl
def qk{a:Int}(b:0<=a)(e:F[a.toNat]?=Z h):dH (F.map V) a=Z (V h):=rF b (by rw[gq,e];rfl)
def sY(SJ:List (Int×Int))(h:Int×Int):eK (V h) (aN SJ)=Z (decide (h∈SJ)):=by
 rw[Ra,nW,qR,BD];rfl
def Dl(SJ:List (Int×Int))(h:Int×Int):eK (V h) (aC SJ)=Z (decide (h∈SJ)):=by
 rw[Lx,nW,qR,BD];rfl
def iS(h:Int×Int):Prop:=(0<=h.1/\h.1<25/\0<=h.2/\h.2<25)
def Q2{o:Option ak}(m:ei (p+2) e)(l:F≠[])(al:F.length<=500)(r:∀h∈F,iS h):
  ∃Sq g w,uB [Z e,Z<|aI H,Z<|aN F,o,S0]=Z (.bo,[Z Sq,Z<|aI H,Z<|aN g,o,w])/\ei p Sq/\g≠[]/\g.length<=F.length+1/\∀h∈g,iS h:=by
 have am:=r5.mpr l;let⟨v,@t,x,z,an,SD⟩:=jk (p:=p+1) (H:=(F.length:Int)) m ⋯ ⋯;obtain⟨h,b⟩:∃h,F[v.toNat]?=Z h:=⟨F[v.toNat]'⋯,by simp⟩;let⟨j,@C,A,dp,di,SP⟩:=jk (p:=p) (H:=4) SD ⋯ ⋯;obtain⟨n,D⟩:∃n,(cV h)[j.toNat]?=Z n:=⟨(cV h)[j.toNat]'(by show j.toNat<4;lia),by simp⟩;have E:=qk z b;have I:=qk dp D;have J:=wJ h;let⟨@L,rfl⟩:=m.lst;let⟨@ap,rfl⟩:=SD.lst;let⟨@d,rfl⟩:=SP.lst;have k:bZ 4 (aF bR (ai<|bq 1 G.mH<|aq (ai<|aF bR (ag 2)<|ai<|bq 2 G.fQ<|aq (ag 0)<|aq (ai<|bQ dd<|aq (ag 2) aB) aB) aB)<|ai<|bq 2 G.fQ<|aq (ag 0)<|aq (ai<|aE<|.int 4) aB) [Z (.lst L),Z<|aI H,Z<|aN F,o,S0]=Z (.bo,[Z (.lst d),Z<|aI H,Z<|aN F,o,Z<|.im<|V n]):=by
  simp -implicitDefEqProofs [x,E,J,A,I]
 have M:=sY F n;have N:=v3 n;have O:=mj n;obtain⟨B,c⟩:∃B:a7,B=[Z (.lst d),Z<|aI H,Z<|aN F,o,Z<|.im<|V n]:=⟨_,rfl⟩;rw[<-c]at k;have P:a8 (aF eY (ag 4)<|ag 2) B=Z (!decide (n∈F),B):=by
  rw[c];show (((eK (V n)<|aN F).map λu=>ak.im<|.av<|!u).map λs=>(s,[Z (.lst d),Z<|aI H,Z<|aN F,o,Z<|.im<|V n])).bind (λq=>(nT q.1).map λf=>(f,q.2))=_;rw[M];rfl
 have Q:a8 (h5 fR fR (ai<|aE<|.int 0) (ai<|aF bR (ag 4)<|ai<|aE<|.int 0)<|ai<|aE<|.int 24) B=Z (decide (0<=n.1)&&decide (n.1<=24),B):=by
  rw[c];by_cases a:0<=n.1<;>simp -implicitDefEqProofs [V,N,a]
 have R:a8 (h5 fR fR (ai<|aE<|.int 0) (ai<|aF bR (ag 4)<|ai<|aE<|.int 1)<|ai<|aE<|.int 24) B=Z (decide (0<=n.2)&&decide (n.2<=24),B):=by
  rw[c];by_cases a:0<=n.2<;>simp -implicitDefEqProofs [V,O,a]
 have fin:∀f:Bool,f=(!decide (n∈F)&&((decide (0<=n.1)&&decide (n.1<=24))&&(decide (0<=n.2)&&decide (n.2<=24))))->
   d5 (a8<|aF eY (ag 4)<|ag 2) (d5 (a8<|h5 fR fR (ai<|aE<|.int 0) (ai<|aF bR (ag 4)<|ai<|aE<|.int 0)<|ai<|aE<|.int 24)<|a8<|h5 fR fR (ai<|aE<|.int 0) (ai<|aF bR (ag 4)<|ai<|aE<|.int 1)<|ai<|aE<|.int 24) B=Z (f,B):=by
  intro f S;rw[S];simp -implicitDefEqProofs only[d5,P,Q,R,rj];generalize (decide (0<=n.1)&&decide (n.1<=24))=y;generalize (decide (0<=n.2)&&decide (n.2<=24))=a;cases decide (n∈F)<;>cases y<;>rfl
 unfold uB;by_cases i:n∉F/\0<=n.1/\n.1<=24/\0<=n.2/\n.2<=24
 ·have T:=fin X (by simp[i]);refine⟨.lst d,F++[n],Z<|.im<|V n,(ht k).trans<|(z3 T).trans ?_,SP,by simp,by simp,λh b=>?_⟩
  ·have bp:F.length<100000:=⋯
   rw[c];simp -implicitDefEqProofs [hj,bp]
  ·rcases dt.mp b with b|b
   ·exact r h b
   ·rw[cA.mp b];exact⟨i.2.1,⋯,i.2.2.2.1,⋯⟩
 ·have U:=fin ar (by
   cases a:(!decide (n∈F)&&((decide (0<=n.1)&&decide (n.1<=24))&&(decide (0<=n.2)&&decide (n.2<=24)))) with
   |false=>rfl
   |true=>
    simp at a;exact absurd ⟨a.1,a.2.1.1,a.2.1.2,a.2.2.1,a.2.2.2⟩ i)
  exact⟨.lst d,F,Z<|.im<|V n,(ht k).trans ((De U).trans (by rw[c];rfl)),SP,l,⋯,r⟩
def Mt(a i:Int):qH [.im (.int a),.im<|.int i]=Z (.im<|.int<|if i>a then i else a):=rfl
def OS(a i:Int):r3 [.im (.int a),.im<|.int i]=Z (.im<|.int<|if i<a then i else a):=rfl
theorem FF{SU Tx:Type}(x:SU->Tx):∀(k:List SU) (o:Nat),(k.map x).eraseIdx o=(k.eraseIdx o).map x
 |[],_=>rfl
 |_::_,0=>rfl
 |g::k,o+1=>by simp[FF x k o]
def lN(l:Int)(p:Nat):List (Int×Int):=((range p).map λ(o:Nat)=>((0+(o:Int))/l,(0+(o:Int))%l))
def Mp(l:Int)(p:Nat):(lN l p).length=p:=by rw[lN,a9,iP]
def IS(a:0<l)(f:l<=7)(g:(p:Int)<=7*l):∀h∈lN l p,iS h:=by
 intro h b;let⟨o,c,rfl⟩:=cH.mp b;have:=gr.mp c;have d:0<=(0+(o:Int))/l:=Es ⋯ ⋯;have i:(0+(o:Int))/l<7:=Int.ediv_lt_of_lt_mul a ⋯;have e:=lO (0+(o:Int)) (show l≠0 by lia);have j:=mQ (0+(o:Int)) a;exact⟨d,by show (0+(o:Int))/l<25;lia,e,by show (0+(o:Int))%l<25;lia⟩
def OW{a:Int}(d:0<l)(e:l<=7)(f:0<a)(g:a<=7):
  bZ 5 (b1 1 [3] (je<|aq (ai<|aF iT (ag 4)<|ag 3) aB) (a0 0) cP G.yV) [b,E,Tn,Z<|aI l,Z<|aI a,S_,T,O,Tz,Tt]=Z (.bo,[b,E,Tn,Z<|aI l,Z<|aI a,Z<|aN<|lN l (a*l).toNat,T,O,Tz,Tt]):=by
 obtain⟨p,c⟩:∃p:Int,p=a*l:=⟨_,rfl⟩;have J:0<p:=by rw[c];exact BZ f d
 have j:p<=49:=by
  rw[c];have:=Ee g e ⋯ ⋯;lia
 have h:rf p:=⟨⋯,⋯⟩;have mk:hq a l=X:=m7 ⋯ ⋯;rw[<-c];refine (xa (s:=aN (lN l p.toNat)) (Sy:=[b,E,Tn,Z<|aI l,Z<|aI a,S_,T,O,Tz,Tt]) ?_ (show 5<10 by decide)).trans rfl;refine (n_ (w:=gn 0 p.toNat) (n:=Y) (Sy:=[b,E,Tn,Z<|aI l,Z<|aI a,S_,T,O,Tz,Tt]) ?_ (fA _ (λ(o:Nat)=>V ((0+(o:Int))/l,(0+(o:Int))%l)) _ (λo k=>?_) (by rw[iP];lia))).trans ?_
 ·simp -implicitDefEqProofs [mk,<-c,h]
 ·have i:l<1073741824:=⋯
  exact⟨[Z (aI<|0+(o:Int)),Z<|aI l],_,[Z (aI<|0+(o:Int)),Z<|aI l],rfl,rfl,by simp -implicitDefEqProofs [yV,d,i,V],rfl⟩
 ·show Z (ak.lst _,_)=Z (ak.lst<|(lN l p.toNat).map V,_);unfold lN;rw[gf];rfl
def PO(v:Nat){e:ak}{F:List (Int×Int)}{T:Option ak}(m:ei (p+200) e)(P:v<F.length)(Q:F.length<=100)(n:∀h∈F,iS h):
  ∃Sq c o,d3 (a0 6) o1 (gn 0 v) [Z e,E,Tn,Tf,S0,Z<|aN F,T,O,Tz,Tt]=Z (.bo,[Z Sq,E,Tn,Tf,S0,Z<|aN c,o,O,Tz,Tt])/\ei p Sq/\c≠[]/\c.length<=F.length/\∀h∈c,iS h:=by
 let⟨@SR,q,⟨C,b,@r,rfl,SP,g,s⟩⟩:=w6 (S1:=a0 6) (f:=o1) (w:=gn 0 v) (λa B=>∃e b T,B=[Z e,E,Tn,Tf,S0,Z<|aN b,T,O,Tz,Tt]/\ei (p+200-a) e/\b.length+a=F.length/\∀h∈b,iS h) (B:=[Z e,E,Tn,Tf,S0,Z<|aN F,T,O,Tz,Tt]) ⟨e,F,T,rfl,m,rfl,n⟩
  (λa d B u d2=>by
   let⟨e,b,@T,rfl,j,Td,x⟩:=d2;have U:a<v:=by
    have:=(fX.mp u).1
    rwa [gn,a9,iP]at this
   let⟨l,@t,y,z,A,SD⟩:=jk (p:=p+200-(a+1)) (H:=(b.length:Int)) (j.mono ⋯) ⋯ ⋯;obtain⟨h,i⟩:∃h,b[l.toNat]?=Z h:=⟨b[l.toNat]'⋯,by simp⟩;let⟨@D,rfl⟩:=j.lst;let⟨@k,rfl⟩:=SD.lst;refine⟨[Z (.lst D),E,Tn,Tf,S0,Z<|aN b,Z<|.im d,O,Tz,Tt],.bo,[Z (.lst k),E,Tn,Tf,S0,Z<|aN<|b.eraseIdx l.toNat,Z<|.im d,O,Tz,Tt],rfl,?_,.inl rfl,.lst k,b.eraseIdx l.toNat,_,rfl,SD,?_,λh i=>x h<|List.mem_of_mem_eraseIdx i⟩
   ·have G:(b.map V)[l.toNat]?=Z (V h):=by rw[gq,i];rfl
    have I:(0<=l/\l<((b.map V).length:Int)):=⟨z,by rw[a9];exact A⟩;have J:=FF V b l.toNat;have L:ro (aN b) [aI l]=Z (.im<|V h,aN<|b.eraseIdx l.toNat):=by
     show (if 0<=l/\l<((b.map V).length:Int) then _ else Y)=_;rw[aJ I,G,J];rfl
    simp -implicitDefEqProofs [o1,hj,y,L,-ro]
   ·rw[List.length_eraseIdx,aJ ⋯];lia)
 have M:(gn 0 v).length=v:=by rw[gn,a9,iP]
 rw[M]at SP g;exact⟨C,b,r,q,SP.mono ⋯,λN=>by rw[N]at g;simp at g;lia,⋯,s⟩
def og(h:Int×Int):Bool:=(decide (h.1%2*(h.2%3%2)=0))
def Nj(d:F.length<=1000):
  bZ 5 (b1 1 [] (b4<|ag 5) (a0 0) G.sE G.xx) [b,E,Tn,Tf,S0,Z<|aN F,T,O,Tz,Tt]=Z (.bo,[b,E,Tn,Tf,S0,Z<|aN<|F.filter og,T,O,Tz,Tt]):=by
 refine (xa (s:=aN (F.filter og)) (Sy:=[b,E,Tn,Tf,S0,Z<|aN F,T,O,Tz,Tt]) ?_ (show 5<10 by decide)).trans rfl;refine (n_ (w:=F.map V) (n:=Z (5,aN F)) (Sy:=[b,E,Tn,Tf,S0,Z .dB,T,O,Tz,Tt]) rfl (j5 _ og V _ _ (λh e=>?_) (by rw[hc];lia))).trans rfl;have a:=v3 h;have c:=mj h;have mk:hq (h.1%2) (h.2%3%2)=X:=by
  have:=lO (h.2%3) (show (2:Int)≠0 by decide);have:=mQ (h.2%3) (show (0:Int)<2 by decide);exact m7 ⋯ ⋯
 refine⟨[Z (.im<|V h)],[Z (.im<|V h)],rfl,?_,λ_=>rfl,λ_=>⟨[Z (.im<|V h)],rfl,rfl⟩⟩;simp -implicitDefEqProofs [sE,V,a,c,mk,og];rfl
def Q1(e:0<p):(0,0)∈lN l p:=by
 refine cH.mpr ⟨0,gr.mpr e,?_⟩;show ((0:Int)/l,(0:Int)%l)=_;rw[Int.zero_ediv,Int.zero_emod]
def mid:bH:=((dy (fG (a8<|aF er (ag 2)<|ai<|aE<|.int 1)<|a8<|aF er (ag 2)<|ai<|aE<|.int 2) (gj (je<|aq (ai<|bq 2 G.fQ<|aq (ag 0)<|aq (ai<|aF e0 (ai<|aE<|.int 1)<|ai<|aF mi (ai<|bQ dd<|aq (ag 5) aB)<|ai<|aE<|.int 2) aB) aB) (a0 6) G.o1)<|dy (a8<|aF er (ag 2)<|ai<|aE<|.int 3) (bZ 5<|b1 1 [] (b4<|ag 5) (a0 0) G.sE G.xx)<|dy (a8<|aF pa (ag 2)<|ai<|aE<|.int 3) (bZ 5<|bq 2 G.oo<|aq (ag 0)<|aq (ag 1) aB) en))
def DQ(m:ei (p+1) e):∃(j:Int) (Sq:ak),m9 [b,Z e]=Z (aI j,[b,Z Sq])/\0<=j/\j<7/\ei p Sq:=by
 let⟨v,@t,a,h,i,SD⟩:=jk (p:=p) (H:=4) m ⋯ ⋯;let⟨@k,rfl⟩:=m.lst;let⟨@c,rfl⟩:=SD.lst;have d:v=0\/v=1\/v=2\/v=3:=⋯
 obtain⟨j,f,R,g⟩:∃j:Int,dH [ab.int 0,.int 0,.int 6,.int 3] v=Z (.int j)/\0<=j/\j<7:=by
  rcases d with rfl|rfl|rfl|rfl
  ·exact⟨0,rfl,by decide,by decide⟩
  ·exact⟨0,rfl,by decide,by decide⟩
  ·exact⟨6,rfl,by decide,by decide⟩
  ·exact⟨3,rfl,by decide,by decide⟩
 exact⟨j,.lst c,by simp -implicitDefEqProofs [m9,a,f],R,g,SD⟩
def L7(m:ei (p+2) e):∃(j I:Int) (Sq:ak),gW (b1 1 [0] (je<|aq (ai<|aE<|.int 2) aB) (a0 0) cP G.m9) (sU 2<|dT (a0 8)<|dT (a0 9) gJ) [Z e,E,Tn,Tf,S0,S_,T,O,Tz,Tt]=Z (.bo,[Z Sq,E,Tn,Tf,S0,S_,T,O,Z<|aI j,Z<|aI I])/\(0<=j/\j<7/\0<=I/\I<7)/\ei p Sq:=by
 let⟨j,@t,a,R,c,SD⟩:=DQ (p:=p+1) (b:=Z (aI 0)) m;let⟨I,@C,d,f,g,SP⟩:=DQ (p:=p) (b:=Z (aI 1)) SD;refine⟨j,I,C,?_,⟨R,c,f,g⟩,SP⟩;have ez:g6 1 (a0 0) cP m9 [.int 0,.int 1] [] [Z e]=Z ([.int j,.int I],[Z C]):=by
  show (m9 [Z (aI 0),Z e]).bind _=_;rw[a];show (m9 [Z (aI 1),Z t]).bind _=_;rw[d];rfl
 have h:=n_ (SV:=[0]) (Q:=je (aq (ai<|aE<|.int 2) aB)) (B:=[Z e,E,Tn,Tf,S0,S_,T,O,Tz,Tt]) (Sy:=[Z e,E,Tn,Tf,S0,S_,T,O,Tz,Tt]) (n:=Y) (w:=[.int 0,.int 1]) rfl ez;unfold gW;rw[h];rfl
def Ho{a:List (Int×Int)}{j I:Int}(f:a.length<=1000):
  bQ gY (aq (ai<|b1 1 [8,9] (b4<|ag 7) (a0 0) cP G.uY) aB) [b,E,Tn,Tf,S0,S_,T,Z<|aC a,Z<|aI j,Z<|aI I]=Z (aC<|a.map λh=>(h.1+j,h.2+I),[b,E,Tn,Tf,S0,S_,T,Z<|aC a,Z<|aI j,Z<|aI I]):=by
 have c:b1 1 [8,9] (b4<|ag 7) (a0 0) cP G.uY [b,E,Tn,Tf,S0,S_,T,Z<|aC a,Z<|aI j,Z<|aI I]=Z (aN<|a.map λh=>(h.1+j,h.2+I),[b,E,Tn,Tf,S0,S_,T,Z<|aC a,Z<|aI j,Z<|aI I]):=by
  refine (n_ (w:=a.map V) (n:=Y) (Sy:=[b,E,Tn,Tf,S0,S_,T,Z<|aC a,Z<|aI j,Z<|aI I]) rfl (fA _ (λh=>V (h.1+j,h.2+I)) _ (λh g=>?_) ⋯)).trans ?_
  ·have d:=v3 h;have e:=mj h;exact⟨[Z (.im<|V h),Z<|aI j,Z<|aI I],_,[Z (.im<|V h),Z<|aI j,Z<|aI I],rfl,rfl,by simp -implicitDefEqProofs [uY,V,d,e],rfl⟩
  ·show Z (ak.lst _,_)=Z (ak.lst<|(a.map λh=>(h.1+j,h.2+I)).map V,_);rw[gf];rfl
 simp -implicitDefEqProofs only[bQ,aq,ai,c,rj,qV,CF,Rw,Je,Nz,gY,kj]
end G
namespace L2
open Spec PyProof.Rows PySem.W
variable{So:Φ}{R:bA}{l:bk}
end L2
namespace L2
open Spec PyProof.Rows PySem.W
def Rq(B:a7)(a:Nat)(J:List ab):Bool:=(match B[a]? with
 |some (Z<|.lst y)=>decide (y=J)
 |_=>ar)
def Dn:ak->ak
 |.im (.aT d)=>.cY d
 |s=>s
@[simp] theorem R9(d:List ab):Dn (.im<|.aT d)=.cY d:=rfl
@[simp] theorem Sg(d:List ab):Dn (.im<|.tup d)=.im (.tup d):=rfl
end L2
namespace L2
section
variable{B Sy S2:a7}
variable{s:ak}
def iX{M:aA ak}(e:M B=Z (s,Sy)):ai M B=Z (.cf s,Sy):=by unfold ai;rw[e];rfl
variable{d:bP}
def uO{M:aA bP}{e:aA (List bP)}{w:List bP}(a:M B=Z (d,Sy))(b:e Sy=Z (w,S2)):aq M e B=Z (d::w,S2):=by unfold aq;rw[a];show (e Sy).map _=_;rw[b];rfl
def su{S9:ak->ak->Option ak}{Ts To:aA bP}{y:bP}{Td Te:ak}(a:Ts B=Z (d,Sy))(b:To Sy=Z (y,S2))(c:dW S2 d=Z Td)(e:dW S2 y=Z Te)(f:S9 Td Te=Z s):aF S9 Ts To B=Z (s,S2):=by
 unfold aF;rw[a];show (To Sy).bind _=_;rw[b];show (dW S2 d).bind _=_;rw[c];show (dW S2 y).bind _=_;rw[e];show (S9 Td Te).map _=_;rw[f];rfl
variable{M:aA (List bP)}{p:Nat}{P:List bP}{J G:List ak}
def RE{Ss:c0}{u:ak}(a:M B=Z (P,Sy))(b:P.length=p)(c:fm P Sy=Z (J,S2))(d:Ss J=Z (u,G)):bq p Ss M B=Z (u,iQ P G S2):=by
 unfold bq;rw[a];show (if P.length=p then _ else _)=_;rw[aJ b];show (fm P Sy).bind _=_;rw[c];show (Ss J).map _=_;rw[d];rfl
def Mi{S9:List ak->Option ak}(a:M B=Z (P,Sy))(b:ip Sy P=Z J)(c:S9 J=Z s):bQ S9 M B=Z (s,Sy):=by
 unfold bQ;rw[a];show (ip Sy P).bind _=_;rw[b];show (S9 J).map _=_;rw[c];rfl
variable{f:Bool}
def HQ{M:aA ak}(c:M B=Z (.im<|.av f,Sy)):a8 M B=Z (f,Sy):=by unfold a8;rw[c];rfl
def tY{M:aA Bool}(c:M B=Z (f,Sy)):eJ M B=Z (!f,Sy):=by unfold eJ;rw[c];rfl
def C9{M:aA bP}(c:M B=Z (d,Sy))(a:dW Sy d=Z s)(b:pH s=Z f):eP M B=Z (f,Sy):=by
 unfold eP;rw[c];show (dW Sy d).bind _=_;rw[a];show (pH s).map _=_;rw[b];rfl
def p1{M:aA ak}{e:fp}(c:M B=Z (s,Sy))(a:e s Sy=Z S2):gW M e B=Z (.bo,S2):=by unfold gW;rw[c];show (e s Sy).map _=_;rw[a];rfl
def l3{M:aA ak}(c:M B=Z (s,Sy)):ie M B=Z (.bo,Sy):=by unfold ie;rw[c];rfl
variable{Tq:a7}{a:Nat}
def mF{ty:ak->Bool}{aU:ak->List ak->Option (ak×ak)}{b h u c:ak}(d:B[a]?=Z (Z b))(e:ty b=X)(f:M B=Z (P,Sy))(g:fm P Sy=Z (J,S2))(i:S2[a]?=Z (Z h))(j:aU h J=Z (u,c))(o:S2.set a (Z c)=Tq):gw ty a aU M B=Z (u,Tq):=by
 subst o;unfold gw;rw[d];show (if ty b=X then _ else _)=_;rw[aJ e,f];show (fm P Sy).bind _=_;rw[g];show (match S2[a]? with|some (Z h)=>_|_=>Y)=_;rw[i];show (aU h J).map _=_;rw[j];rfl
def tA(a:M B=Z (P,Sy))(b:fm P Sy=Z (J,S2))(c:J.length<=100000)(o:u9 J=s):dY M B=Z (s,S2):=by
 unfold dY;rw[a];show (fm P Sy).bind _=_;rw[b];show (if _ then _ else _)=_;rw[aJ c,o]
def QD(a:M B=Z (P,Sy))(b:fm P Sy=Z (J,S2))(c:J.length<=100000)(o:tp J=s):eV M B=Z (s,S2):=by
 unfold eV;rw[a];show (fm P Sy).bind _=_;rw[b];show (if _ then _ else _)=_;rw[aJ c,o]
def r1{d:List ab}{s:ab}(e:d.length<100000):kP (.lst d) [.im s]=Z (.im .aV,.lst<|d++[s]):=aJ e
def rJ(a i:Int):er (.im<|.int a) (.im<|.int i)=Z (.im<|.av<|decide (a=i)):=by
 show Z (ak.im<|.av<|a==i)=_;by_cases e:a=i<;>simp[e]
def FU(a i:Int):hn (.im<|.int a) (.im<|.int i)=Z (.im<|.av<|!decide (a=i)):=by
 show Z (ak.im<|.av<|!(a==i))=_;by_cases e:a=i<;>simp[e]
variable{u:Option (mR×a7)}{f:bH}{h:aA Bool}
theorem iD{g:bH}(c:h B=Z (X,Sy))(e:g Sy=u):dy h g f B=u:=(z3 c).trans e
theorem e3{g:bH}(c:h B=Z (ar,Sy))(e:f Sy=u):dy h g f B=u:=(De c).trans e
theorem bL{M e:bH}(c:M B=Z (.bo,Sy))(o:e Sy=u):bt M e B=u:=(ht c).trans o
theorem jm{M:aA ak}(c:M B=Z (s,Sy))(e:a<Sy.length)(o:Sy.set a (Z s)=S2):bZ a M B=Z (.bo,S2):=(xa c e).trans (by rw[o])
variable{w:List ab}{S1:fp}{n:Option (Nat×ak)}
theorem jy{M:jW}{aT:mR}(c:M B=Z ((w,n),Sy))(e:d3 S1 f w Sy=Z (aT,S2))(o:lb n S2=Tq):gj M S1 f B=Z (aT,Tq):=(sX c e).trans (by rw[o])
theorem e2{own:Nat}{SV:List Nat}{Q:jW}{c:aA ak}{a:a7}{J:List ab}(t:Q B=Z ((w,n),Sy))(C:g6 own S1 h c w [] (jn SV Sy)=Z (J,a))(o:lb n (iM SV a Sy)=Tq):b1 own SV Q S1 h c B=Z (.lst J,Tq):=(n_ t C).trans (by rw[o])
variable{f g:aA Bool}
def u2(c:g B=Z (X,Sy)):fG g f B=Z (X,Sy):=by unfold fG;rw[c];rfl
variable{u:Option (Bool×a7)}
def fl(c:g B=Z (ar,Sy))(e:f Sy=u):fG g f B=u:=by unfold fG;rw[c];exact e
def gG(c:g B=Z (X,Sy))(e:f Sy=u):d5 g f B=u:=by unfold d5;rw[c];exact e
def o_(c:g B=Z (ar,Sy)):d5 g f B=Z (ar,Sy):=by unfold d5;rw[c];rfl
def j3{M:aA Bool}{f:Bool}(c:M B=Z (f,Sy)):fx M B=Z (.im<|.av f,Sy):=by unfold fx;rw[c];rfl
variable{u:ak}
def ct{Ss:c0}(a:M B=Z (P,Sy))(b:P.length=p)(c:fm P Sy=Z (J,S2))(d:Ss J=Z (u,G))(o:iQ P G S2=Tq):bq p Ss M B=Z (u,Tq):=by rw[<-o];exact RE a b c d
def i2{M:aA Bool}(c:M B=Z (X,Sy)):eJ M B=Z (ar,Sy):=tY c
def Jl{M:aA Bool}(c:M B=Z (ar,Sy)):eJ M B=Z (X,Sy):=tY c
def vc{d y:List ab}(a:M B=Z (P,Sy))(b:ip Sy P=Z [.im (.tup d),.im<|.tup y]):jS M B=Z ((gL d y,Y),Sy):=by
 unfold jS;rw[a];show (ip Sy P).bind _=_;rw[b];rfl
def r9{M:aA bP}{k e:aA (Option Int)}{Q U:Option Int}{a:ak}(b:M B=Z (d,Sy))(c:k Sy=Z (Q,S2))(f:e S2=Z (U,Tq))(g:dW Tq d=Z s)(h:oR s Q U=Z a):iy M k e B=Z (a,Tq):=by
 unfold iy;rw[b];show (k Sy).bind _=_;rw[c];show (e S2).bind _=_;rw[f];show (dW Tq d).bind _=_;rw[g];show (oR s Q U).map _=_;rw[h];rfl
def dM{H:Nat}{SX:List Nat}{M:bH}(a:J.length=p)(c:M (J.map Z++replicate (H-p) Y)=Z (.es u,B))(b:iA SX J B 0=G):c_ p H SX M J=Z (u,G):=sk B a c b
end
section
variable{B Sy:a7}
variable{M:aA ak}{s:ak}
def a4(e:M B=Z (s,B)):ai M B=Z (.cf s,B):=iX e
variable{d:bP}
def bJ{M:aA bP}{e:aA (List bP)}{w:List bP}(a:M B=Z (d,B))(b:e B=Z (w,B)):aq M e B=Z (d::w,B):=uO a b
variable{S9:ak->ak->Option ak}{Ts To:aA bP}{y:bP}{Td Te:ak}
def dc(a:Ts B=Z (d,B))(b:To B=Z (y,B))(c:dW B d=Z Td)(e:dW B y=Z Te)(f:S9 Td Te=Z s):aF S9 Ts To B=Z (s,B):=su a b c e f
def ed(a:S9 Td Te=Z s)(b:Ts B=Z (d,B):=by rfl)(c:To B=Z (y,B):=by rfl)(e:dW B d=Z Td:=by rfl)(f:dW B y=Z Te:=by rfl):aF S9 Ts To B=Z (s,B):=su b c e f a
def cW{S9:List ak->Option ak}{M:aA (List bP)}{P:List bP}{J:List ak}(a:M B=Z (P,B))(b:ip B P=Z J)(c:S9 J=Z s):bQ S9 M B=Z (s,B):=Mi a b c
variable{f:Bool}
def cz(c:M B=Z (.im<|.av f,B)):a8 M B=Z (f,B):=HQ c
def gR{M:aA bP}(c:M B=Z (d,B))(a:dW B d=Z s)(b:pH s=Z f):eP M B=Z (f,B):=C9 c a b
def kS{a:Nat}(c:M B=Z (s,B))(e:a<B.length)(o:B.set a (Z s)=Sy):bZ a M B=Z (.bo,Sy):=jm c e o
end
end L2
namespace G
open L2
def fH{p H:Nat}(e:Nat.ble (p+1) H=X):p<H:=nP e
abbrev aG:=Int×Int
variable{f:aG}{F SH:List aG}
inductive cQ (F:List aG) (j:aG):aG->Prop
 | self:cQ F j j
 | step {g f:aG}:cQ F j g->f∈F->f∈cV g->cQ F j f
def iE(F:List aG):Prop:=(F.Pairwise λg f=>bx (V g) (V f)=X)
def xX(ah:SH.Nodup)(a:SH.length<=1000):∃F:List aG,i9 (SH.map V)=Z (aN F)/\F.Perm SH/\iE F:=by
 have n:=w7 ah a;let⟨F,t,C⟩:=Ca (jJ<|SH.map V);refine⟨F,?_,t,?_⟩
 ·unfold i9;rw[aJ (sH.mpr n),C]
 ·have:=tK n.ord.ah n.ord.kd;rw[C]at this;exact mE.mp this
structure mC(F:List aG)(f:aG)(SH Ta:List aG)(l:aG)(Q:List aG):Prop where
 ah:SH.Nodup
 rD:f∈SH
 con:∀h∈SH,cQ F f h
 dD:SH.length+i6 F SH<=F.length+1
 wl:Ta.length<=SH.length
 fg:∀h∈Ta,h∈SH
 cl:∀h∈SH,h∉Ta->∀s∈cV h,s∈F->s∈SH\/(h=l/\s∈Q)
abbrev hk(b:Option ak)(F:List aG)(f:aG)(SH Ta:List aG)(S_:Option ak):a7:=[b,Z<|.im<|V f,Z<|.ay<|hh<|aU F,Z<|.ay<|aU SH,Z<|aN Ta,S_]
def ND{h l:aG}{Ta Q:List aG}{b:Option ak}(x:F.length<=500)(k:l∈SH)(q:h∈cV l)(R:mC F f SH Ta l (h::Q)):
  ∃m o,nC (hk b F f SH Ta<|Z<|.im<|V h)=Z (.bo,hk b F f m o<|Z<|.im<|V h)/\mC F f m o l Q/\l∈m/\2*i6 F m+o.length<=2*i6 F SH+Ta.length:=by
 have g:(d8 (hh<|aU F)<|c9 h).isSome=decide (h∈F):=HY F h;have n:(d8 (aU SH)<|c9 h).isSome=decide (h∈SH):=wX SH h;have p:=nN h;have z:=R.dD;have A:=R.wl;by_cases t:h∈F
 ·by_cases C:h∈SH
  ·refine⟨SH,Ta,?_,⟨R.ah,R.rD,R.con,R.dD,R.wl,R.fg,λd a i s hd j=>?_⟩,k,bl _⟩
   ·rw[dw t]at g;rw[dw C]at n;simp -implicitDefEqProofs [nC,oI,p,g,n]
   ·rcases R.cl d a i s hd j with e|⟨e,Sq⟩
    ·exact .inl e
    ·rcases cq.mp Sq with rfl|Sq
     ·exact .inl C
     ·exact .inr ⟨e,Sq⟩
  ·rw[dw t]at g;rw[dm C]at n;have L:=Pl t C;refine⟨SH++[h],Ta++[h],?_,⟨?_,dK _ R.rD,λd a=>?_,?_,by simp;exact R.wl,λd a=>?_,λd a i s hd j=>?_⟩,dK _ k,by simp;lia⟩
   ·have r:=AS C;have aX:(aU SH).length<100000:=by unfold aU;rw[a9];lia
    have bp:Ta.length<100000:=⋯
    simp -implicitDefEqProofs [nC,oI,p,g,n,r,aX,bp,hj]
   ·exact df.mpr ⟨R.ah,ep _ _,λd a y u c=>C (by rw[cA.mp u]at c;rw[<-c];exact a)⟩
   ·rcases dt.mp a with a|a
    ·exact R.con d a
    ·rw[cA.mp a];exact .step (R.con l k) t q
   ·rw[c5,eD];lia
   ·rcases dt.mp a with a|a
    ·exact dK _ (R.fg d a)
    ·exact dQ _ a
   ·have v:d∈SH:=by
     rcases dt.mp a with a|a
     ·exact a
     ·exact absurd (dQ _ a) i
    rcases R.cl d v (λw=>i<|dK _ w) s hd j with e|⟨e,Sq⟩
    ·exact .inl (dK _ e)
    ·rcases cq.mp Sq with rfl|Sq
     ·exact .inl (dQ _<|.head _)
     ·exact .inr ⟨e,Sq⟩
 ·refine⟨SH,Ta,?_,⟨R.ah,R.rD,R.con,R.dD,R.wl,R.fg,λd a i s hd j=>?_⟩,k,bl _⟩
  ·rw[dm t]at g;simp -implicitDefEqProofs [nC,oI,p,g]
  ·rcases R.cl d a i s hd j with e|⟨e,Sq⟩
   ·exact .inl e
   ·rcases cq.mp Sq with rfl|Sq
    ·exact absurd j t
    ·exact .inr ⟨e,Sq⟩
theorem Gz{F:List aG}{f l:aG}{b:Option ak}(e:F.length<=500):∀(Q:List aG) {SH Ta:List aG} (S_:Option ak),l∈SH->(∀h∈Q,h∈cV l)->mC F f SH Ta l Q->
  ∃a c i,d3 (a0 5) nC (Q.map V) (hk b F f SH Ta S_)=Z (.bo,hk b F f a c i)/\mC F f a c l []/\2*i6 F a+c.length<=2*i6 F SH+Ta.length
 |[],SH,Ta,S_,_,_,R=>⟨SH,Ta,S_,rfl,R,bl _⟩
 |h::Q,SH,Ta,S_,j,g,R=>by
  let⟨S6,u,k,m,n,o⟩:=ND (h:=h) (b:=b) e j (g h<|.head _) R;let⟨S8,p,Tn,q,r,s⟩:=Gz e Q (Z<|.im<|V h) n (λd t=>g d<|.tail _ t) m;refine⟨S8,p,Tn,?_,r,ew s o⟩;rw[cE,d3];dsimp only;rw[show a0 5 (.im<|V h) (hk b F f SH Ta S_)=Z (hk b F f SH Ta<|Z<|.im<|V h) from rfl];show (nC _).bind _=_;rw[k];exact q
def EJ(d:ak)(F:List aG):Prop:=(d=aN F\/d=aC F)
def Nn{d:ak}(t:EJ d F)(A:F.length<=500):∃j:List aG,sx [d,.im<|V f]=Z (aC j,[d,.im<|V f])/\iE j/\(∀H,H∈j↔cQ F f H)/\j.length<=F.length+1/\j.Nodup:=by
 have v:∀h∈F,∃Sy S2 Tq,a0 0 (.im<|V h) (replicate 1 Y++jn [] [Z d,Z<|.im<|V f,Y,Y,Y,Y])=Z Sy/\cP Sy=Z (X,S2)/\tj S2=Z (.im<|.tup [V h,.av X],Tq)/\Tq.drop 1=[]:=λh W=>⟨[Z (.im<|V h)],_,[Z (.im<|V h)],rfl,rfl,rfl,rfl⟩;have C:b1 1 [] (b4<|ag 0) (a0 0) cP G.tj [Z d,Z<|.im<|V f,Y,Y,Y,Y]=Z (.lst<|F.map λh=>.tup [V h,.av X],[Z d,Z<|.im<|V f,Y,Y,Y,Y]):=by
  rcases t with rfl|rfl
  ·exact (n_ (w:=F.map V) (n:=Z (0,aN F)) (Sy:=[Z .dB,Z<|.im<|V f,Y,Y,Y,Y]) rfl (fA _ (λh=>.tup [V h,.av X]) _ v ⋯)).trans rfl
  ·exact (n_ (w:=F.map V) (n:=Y) (Sy:=[Z (aC F),Z<|.im<|V f,Y,Y,Y,Y]) rfl (fA _ (λh=>.tup [V h,.av X]) _ v ⋯)).trans rfl
 have o:((aU F).all λq=>ab.keys 7 q.1)=X/\(aU F).length<=1000:=⟨Kw F,by unfold aU;rw[a9];lia⟩;have D:bZ 2 (bQ ob<|aq (ai<|b1 1 [] (b4<|ag 0) (a0 0) cP G.tj) aB) [Z d,Z<|.im<|V f,Y,Y,Y,Y]=Z (.bo,[Z d,Z<|.im<|V f,Z<|.ay<|hh<|aU F,Y,Y,Y]):=by
  refine kS (s:=.ay (hh<|aU F)) (cW (bJ (a4 C) rfl) rfl ?_) (fH rfl) rfl;simp -implicitDefEqProofs only[rj,qV,ob,O9,o.1,o.2,and_self,hx]
 have x:mC F f [f] [f] f []:=⟨ep _ _,.head _,λh a=>by rw[cA.mp a];exact .self,by
  have:F.countP (λh=>decide (h∉[f]))<=F.length:=List.countP_le_length;show 1+i6 F [f]<=F.length+1;unfold i6;lia,bl _,λh a=>a,λh a m=>absurd a m⟩
 let⟨SR,E,⟨SH,l,S_,rfl,R⟩⟩:=pL (h:=wI) (f:=zz) (λH B=>∃SH Ta l S_,B=hk (Z d) F f SH Ta S_/\mC F f SH Ta l []/\2*i6 F SH+Ta.length<=H) (λB=>∃SH l S_,B=hk (Z d) F f SH [] S_/\mC F f SH [] l [])
  (λH B d2=>by
   let⟨SH,Ta,I,S_,rfl,R,o⟩:=d2;by_cases y:Ta=[]
   ·subst y;exact⟨ar,hk (Z d) F f SH [] S_,rfl,(λk=>by cases k),λ_=>⟨SH,I,S_,rfl,R⟩⟩
   ·let⟨i,l,rfl⟩:=BV y;have p:wI (hk (Z d) F f SH (i++[l]) S_)=Z (X,hk (Z d) F f SH (i++[l]) S_):=by
     have J:=qR (i++[l]);have m:fS ((i++[l]).map V) []=ar:=by
      cases i with
      |nil=>rfl
      |cons g u=>rfl
     have L:hn (aN<|i++[l]) (.lst [])=Z (.im<|.av X):=by
      simp only[hn,J,m];rfl
     exact cz (ed L)
    refine⟨X,_,p,λ_=>?_,(λk=>by cases k)⟩;have M:mC F f SH i l (cV l):=⟨R.ah,R.rD,R.con,R.dD,by have:=R.wl;simp at this;lia,λh a=>R.fg h<|dK _ a,λh a m s hd N=>by
     by_cases z:h=l
     ·subst z;exact .inr ⟨rfl,hd⟩
     ·rcases R.cl h a (λk=>(dt.mp k).elim m λk=>z<|cA.mp k) s hd N with e|⟨_,e⟩
      ·exact .inl e
      ·cases e⟩
    let⟨S8,r,Tn,O,P,al⟩:=Gz (b:=Z d) A (cV l) S_ (R.fg l<|dQ _<|.head _) (λh a=>a) M;refine⟨.bo,hk (Z d) F f S8 r Tn,?_,.inl rfl,2*i6 F S8+r.length,?_,S8,r,l,Tn,rfl,P,bl _⟩
    ·unfold zz;refine jy (n:=Y) (w:=(cV l).map V) (Sy:=hk (Z d) F f SH i S_) ?_ O rfl;have Q:((i++[l]).map V).getLast?=Z (V l):=by simp
     have hd:((i++[l]).map V).dropLast=i.map V:=by simp
     have c:=wJ l;simp -implicitDefEqProofs only[b4,ai,bq,aq,gw,List.getElem?_cons_zero,List.getElem?_cons_succ,hj,hx,CF,rj,KD,qX,Q,hd,qV,OO,dF,hc,c];simp -implicitDefEqProofs [c,kj]
    ·simp at o;lia) 1000000 _ (hk (Z d) F f [f] [f] Y) ⟨[f],[f],f,Y,rfl,x,bl _⟩ (by
    have:=x.dD;simp;simp at this;lia)
 let⟨j,S,S4,up⟩:=xX R.ah (by have:=R.dD;lia);refine⟨j,?_,up,λH=>S4.mem_iff.trans ⟨R.con H,λe=>?_⟩,by rw[S4.length_eq];have:=R.dD;lia,S4.nodup_iff.mpr R.ah⟩
 ·have T:hD [.ay (aU SH)]=Z (aN j):=by
   show i9 ((aU SH).map λq=>.tup q.1)=Z (aN j);rw[QR];exact S
  unfold sx DB;exact dM (B:=hk (Z d) F f SH [] S_) rfl (bL D<|bL (Sy:=[Z d,Z<|.im<|V f,Z<|.ay<|hh<|aU F,Z<|.ay<|aU [f],Y,Y]) rfl<|bL (Sy:=hk (Z d) F f [f] [f] Y) rfl<|bL E<|eU<|cW (bJ (a4<|cW (bJ rfl rfl) rfl T) rfl) rfl rfl) (by rcases t with rfl|rfl<;>rfl)
 ·induction e with
  |self=>exact R.rD
  |step _ p hd U=>
   rcases R.cl _ U (λk=>nomatch k) _ hd p with e|⟨_,e⟩
   ·exact e
   ·cases e
end G
namespace L2
open Spec PyProof.Rows
end L2
namespace L2
open Spec PyProof.Rows PySem.W
end L2
namespace L2
open Spec PyProof.Rows
variable{e To Ts:aA bP}{f g c:bu}{Sx:List bu}{SK q:Pos}{o p:Nat}{M:aA (List bP)}{SX:List Nat}{SY SJ:List aD}{x:af}{z:b9}{Tu d:aD}{So:Φ}{Ss:c0}{SQ:gE}
def oN:fW:=(λg f=>match g,f with
 |.im d,.im y=>if eB 6 d y=X then Z (.im<|.av<|bx d y) else Y
 |_,_=>Y)
section
variable{b:aL}
def xD(o:b.A.units+20<b6):eW b (d9 .Lt) oN:=by
 intro G j A m d y v L D E e f g;let⟨Td,Te,@s,h,k,c,r⟩:=g;unfold oN at c;split at c
 ·split at c
  ·rename_i n;cases c;exact x7 6 n ⋯ (h.i.fh E.aY e) (k.i.fh E.aY f) b.prog b.w _ _ ⟨.av _,m,E,rfl,cb.i r rfl⟩
  ·cases c
 ·cases c
def A0{own:List aD}{SV:List Nat}(e:uD b.env.scope b.N SQ SV=X):hS b SQ own SV:=kn _ _ e rfl rfl
end
def Nu:ve (.type "list_reverseiterator") "__len__" = pure Y:=by rw[vW,vP];kernel_rfl
def QP:ve (.type "list_reverseiterator") "__length_hint__" = pure (Z<|.builtin "list_reverseiterator.__length_hint__"):=by rw[vW,vP];kernel_rfl
section
variable{Sz:bA}{l:bk}{O:bw}{j:ao}{Su:rd->ao->Prop}{E:af}{bF k:List af}{Ss:Array pP->Array pP->Prop}{p:Nat}{R:Nat->ae->Prop}{a3:Nat->ao->Prop}
def Jw(W:WalksS Sz l O.in1 E bF k Ss p R a3)(e:∀a j,a3 a j->j.TypeIs (.ref E) "list_reverseiterator")(SM:af)(i:ae)(o:Nat)(b:a3 0 j)(m:SM∉bF)(d2:E∈bF)(q:j.heap.get? SM=Z {cls:=.type "list",data:=.seq #[] o})(r:∀Sr g d,Moved (SM::k) Ss j Sr->Sr.heap.get? SM=Z {cls:=.type "list",dict:=Y,data:=.seq g d,slots:=#[]}->qs R g p->Su (.ok<|.ret i) Sr)(s:p<=sizeLine):
  wpAny (aS Sz l) O.in1 (a_.List.listExtendWith (.ref SM) (.ref E) i)
   (λfin Sr=>match fin with | .done x=>Su (.ok x) Sr | .again d=>d.quiet=X/\codeAny (aS Sz l) O d Su Sr) (λc Sr=>Su (.error c) Sr) j:=by
 have u:SM≠E:=λc=>m (c ▸ d2);have t:a_.List.listSameRef (.ref SM) (.ref E)=ar:=by simp[a_.List.listSameRef,u]
 unfold a_.List.listExtendWith;refine aw (wpAny_typeOf (e 0 _ b) ?_);rw[aM (by rw[t];decide)];refine aw (W.self 0 _ _ _ b<|aw<|fB ?_);unfold a_.List.listLengthHint;refine aw (mK (e 0 _ b) Nu ?_);show wpAny _ O.in1 (specialOf (ae.ref E) (aD.ofString "__length_hint__") >>= _) _ _ _;refine aw (mK (e 0 _ b) QP ?_)
 (generalize h:("list_reverseiterator.__length_hint__" : String)=n;(fail_if_success (clear h n));wp_delta;rw[show splitId n=Z ("list_reverseiterator","__length_hint__") from by subst h;decide +kernel];subst h)
 refine aw (q1 (b:=X) (e 0 _ b) (by rw[isSubtype_type];kernel_rfl) ?_);refine aW ?_;rw[aM ∅];exact aW ⟨kX F.plain_extend_loop _,codeAny_extend_loopS W s _ m _ p 0 _ _ _ rfl (gI _) b q (qs.nil R) λSr g d v w y=>r Sr g d v w y⟩
end
def rL:List (af×bj)->Bool
 |[]=>X
 | (_,n)::u=>(match n.data with
  |.seq _ _=>(match n.cls with | .type p=>p != "list" |_=>X)
  |_=>X)&&rL u
def HC{So:List (af×bj)}{g:af}{n:bj}{SG:Array ae}(e:rL So=X)(c:So.lookup g=Z n)(a:n.cls=.type "list")(hd:n.data=.seq SG p):False:=by
 induction So with
 |nil=>cases c
 |cons q u b=>
  let⟨f,d⟩:=q;rw[rL,cX]at e;simp only[List.lookup]at c;split at c
  ·cases c;have t:=e.1;rw[hd]at t;dsimp only at t;rw[a]at t;exact absurd t ∅
  ·exact b e.2 c
theorem Au{m:ax}:∀Q:List Int,bM m (Q.map .int) (Q.map aj.int)
 |[]=>rfl
 |p::u=>⟨.int p,_,rfl,rfl,Au u⟩
def Lg(b:rL So=X)(m:ax)(g:af)(Q:List Int)(d:tJ m)(f:dk So m g (Q.map aj.int))(a:∃G,Ss [.cY (Q.map .int)]=Z (.im<|.av X,G)){Sv:gk}:jM 1 Ss [.ref g] m (λv W=>v=.av X) Sv:=by
 let⟨@G,a⟩:=a;have h:∃n,m g=Z (.ec n<|.lst<|Q.map aj.int):=by
  rcases f with (e|e)|⟨n,SG,p,t,C,k,i,_⟩
  ·rcases d g with c|⟨n,w,c⟩
   ·rw[c]at e;cases e
   ·rw[c]at e;cases e
  ·exact e
  ·exact (HC b t C i).elim
 let⟨@n,j⟩:=h;refine⟨rfl,[.cY (Q.map .int)],[],.im<|.av X,G,⟨_,_,[],[],rfl,⟨g,_,n,rfl,j,Au Q,rfl⟩,⟨rfl,rfl⟩,rfl⟩,jb,a,λv T Su l e W W=>?_⟩;exact e.1
def hX{SO:List ae}(e:SO.length=p+1):∃g u,SO=g::u/\u.length=p:=by
 cases SO with
 |nil=>cases e
 |cons g u=>exact⟨g,u,rfl,Nat.succ.inj e⟩
def fU.JR{fd:gp}(N:fU So d Tu z x fd)(e:∀(b7 i S4:ae) (B:Option af) (Q b3:ae) (g:ae),iY (Ξ d Tu (g8 z) (gb z) (dN z) .none b7 i S4 B Q b3) ⟨[g],[]⟩=pure (SJ.zip [g]))(b:SJ.length=1:=by rfl):hG So fd SJ []:=
 N.binds λb7 i S4 B Q b3 SO a=>by
  replace a:=a.trans b;let⟨g,@c,rfl,t⟩:=hX a;obtain rfl:=o7 t;exact e b7 i S4 B Q b3 g
def fU.Oa{fd:gp}(N:fU So d Tu z x fd)(e:∀(b7 i S4:ae) (B:Option af) (Q b3:ae) (g f:ae),iY (Ξ d Tu (g8 z) (gb z) (dN z) .none b7 i S4 B Q b3) ⟨[g,f],[]⟩=pure (SJ.zip [g,f]))(b:SJ.length=2:=by rfl):hG So fd SJ []:=
 N.binds λb7 i S4 B Q b3 SO a=>by
  replace a:=a.trans b;let⟨g,@c,rfl,t⟩:=hX a;let⟨f,@h,rfl,C⟩:=hX t;obtain rfl:=o7 C;exact e b7 i S4 B Q b3 g f
def fU.Qa{fd:gp}(N:fU So d Tu z x fd)(e:∀(b7 i S4:ae) (B:Option af) (Q b3:ae) (g f h:ae),iY (Ξ d Tu (g8 z) (gb z) (dN z) .none b7 i S4 B Q b3) ⟨[g,f,h],[]⟩=pure (SJ.zip [g,f,h]))(b:SJ.length=3:=by rfl):hG So fd SJ []:=
 N.binds λb7 i S4 B Q b3 SO a=>by
  replace a:=a.trans b;let⟨g,@j,rfl,t⟩:=hX a;let⟨f,@k,rfl,C⟩:=hX t;let⟨h,@l,rfl,c⟩:=hX C;obtain rfl:=o7 c;exact e b7 i S4 B Q b3 g f h
def fU.N2{fd:gp}(N:fU So d Tu z x fd)(e:∀(b7 i S4:ae) (B:Option af) (Q b3:ae) (g f h s:ae),iY (Ξ d Tu (g8 z) (gb z) (dN z) .none b7 i S4 B Q b3) ⟨[g,f,h,s],[]⟩=pure (SJ.zip [g,f,h,s]))(b:SJ.length=4:=by rfl):hG So fd SJ []:=
 N.binds λb7 i S4 B Q b3 SO a=>by
  replace a:=a.trans b;let⟨g,@k,rfl,t⟩:=hX a;let⟨f,@l,rfl,C⟩:=hX t;let⟨h,@m,rfl,c⟩:=hX C;let⟨s,@n,rfl,j⟩:=hX c;obtain rfl:=o7 j;exact e b7 i S4 B Q b3 g f h s
def fU.IJ{fd:gp}(N:fU So d Tu z x fd)(e:∀(b7 i S4:ae) (B:Option af) (Q b3:ae) (g f h s c:ae),iY (Ξ d Tu (g8 z) (gb z) (dN z) .none b7 i S4 B Q b3) ⟨[g,f,h,s,c],[]⟩=pure (SJ.zip [g,f,h,s,c]))(b:SJ.length=5:=by rfl):hG So fd SJ []:=
 N.binds λb7 i S4 B Q b3 SO a=>by
  replace a:=a.trans b;let⟨g,@m,rfl,t⟩:=hX a;let⟨f,@n,rfl,C⟩:=hX t;let⟨h,@o,rfl,j⟩:=hX C;let⟨s,@p,rfl,k⟩:=hX j;let⟨c,@q,rfl,l⟩:=hX k;obtain rfl:=o7 l;exact e b7 i S4 B Q b3 g f h s c
structure eQ where
 P:bA
 w:bk
 K:Φ
 az:aD->Option ae
 base:a5
def c3(So:Φ)(d:aD)(z:b9)(x:af):Prop:=(∃fd,fU So d d z x fd/\Ψ So dJ d=Z (Z<|.ref x))
def dq(So:Φ)(az:aD->Option ae)(d:aD)(z:b9)(x:af)(SJ:List aD):Prop:=(∃fd,fU So d d z x fd/\hG So fd SJ []/\az d=Z (.ref x))
def cg(R:bA)(l:bk)(So:Φ)(az:aD->Option ae)(SA:a5)(o:Nat)(d:aD)(z:b9)(x:af)(SJ:List aD)(p:Nat)(Ss:c0):Prop:=(∃fd,fU So d d z x fd/\hG So fd SJ []/\az d=Z (.ref x)/\hC R l So az SA hE o x fd SJ (jM p Ss))
abbrev e_(h:eQ):=cg h.P h.w h.K h.az h.base
def DW{t:ae}{H B:Option af}{S:Array (Option ae)}{b7 i S4 Q b3:ae}(g:Ψ So dJ d=Z (Z<|.ref x))(k:So.lookup x=Z ⟨t,H,.func<|Ξ d d (g8 z) (gb z) (dN z) .none b7 i S4 B Q b3,S⟩)(h:Δ So Q d=X)(o:Θ So (.ref x)=X):c3 So d z x:=⟨_,Hn k h o,g⟩
section
variable{R:bA}{l:bk}{So:Φ}{az:aD->Option ae}{SA e:a5}{o p:Nat}{d:aD}{z:b9}{x:af}{SJ:List aD}{Ss:c0}
def c3.dp(u:c3 So d z x)(b:So.In e)(c:e.Ns dJ az)(f:∀(b7 i S4:ae) (B:Option af) (Q b3 g:ae),iY (Ξ d d (g8 z) (gb z) (dN z) .none b7 i S4 B Q b3) ⟨[g],[]⟩=pure (SJ.zip [g]):=by intros;rfl)(h:SJ.length=1:=by rfl):dq So az d z x SJ:=
 have ⟨_,a,g⟩:=u
 ⟨_,a,a.JR f h,lq b c g⟩
def c3.di(u:c3 So d z x)(b:So.In e)(c:e.Ns dJ az)(h:∀(b7 i S4:ae) (B:Option af) (Q b3 g f:ae),iY (Ξ d d (g8 z) (gb z) (dN z) .none b7 i S4 B Q b3) ⟨[g,f],[]⟩=pure (SJ.zip [g,f]):=by intros;rfl)(j:SJ.length=2:=by rfl):dq So az d z x SJ:=
 have ⟨_,a,g⟩:=u
 ⟨_,a,a.Oa h j,lq b c g⟩
def c3.nd(u:c3 So d z x)(b:So.In e)(c:e.Ns dJ az)(j:∀(b7 i S4:ae) (B:Option af) (Q b3 g f h:ae),iY (Ξ d d (g8 z) (gb z) (dN z) .none b7 i S4 B Q b3) ⟨[g,f,h],[]⟩=pure (SJ.zip [g,f,h]):=by intros;rfl)(k:SJ.length=3:=by rfl):dq So az d z x SJ:=
 have ⟨_,a,g⟩:=u
 ⟨_,a,a.Qa j k,lq b c g⟩
def c3.lL(u:c3 So d z x)(b:So.In e)(c:e.Ns dJ az)(j:∀(b7 i S4:ae) (B:Option af) (Q b3 g f h s:ae),iY (Ξ d d (g8 z) (gb z) (dN z) .none b7 i S4 B Q b3) ⟨[g,f,h,s],[]⟩=pure (SJ.zip [g,f,h,s]):=by intros;rfl)(k:SJ.length=4:=by rfl):dq So az d z x SJ:=
 have ⟨_,a,g⟩:=u
 ⟨_,a,a.N2 j k,lq b c g⟩
def c3.mB(u:c3 So d z x)(b:So.In e)(j:e.Ns dJ az)(k:∀(b7 i S4:ae) (B:Option af) (Q b3 g f h s c:ae),iY (Ξ d d (g8 z) (gb z) (dN z) .none b7 i S4 B Q b3) ⟨[g,f,h,s,c],[]⟩=pure (SJ.zip [g,f,h,s,c]):=by intros;rfl)(l:SJ.length=5:=by rfl):dq So az d z x SJ:=
 have ⟨_,a,g⟩:=u
 ⟨_,a,a.IJ k l,lq b j g⟩
def cg.m(aO:cg R l So az SA o d z x SJ p Ss):az d=Z (.ref x):=have ⟨_,_,_,H,_⟩:=aO;H
def cg.fd{fd:gp}(aO:cg R l So az SA o d z x SJ p Ss)(b:fU So d d z x fd):hC R l So az SA hE o x fd SJ (jM p Ss):=by
 let⟨@f,e,W,W,M⟩:=aO;let⟨t,H,b7,i,S4,B,Q,b3,@S,c,k,W⟩:=b.ex;let⟨g,h,j,m,n,q,r,s,@u,v,a,W⟩:=e.ex;rw[k]at a;cases a;exact M
def Oy(u:c3 So d z x)(b:So.In e)(c:e.Ns dJ az){ej:af}(h:az d=Z (.ref ej)){q:aD}(m:∀(b7 i S4:ae) (B:Option af) (Q b3:ae) (j:ao) (v:ae),lT j (Ξ d d (g8 z) (gb z) (dN z) .none b7 i S4 B Q b3) ⟨[v],[]⟩ [(q,v)])(aO:∀SA,cg R l So az SA o d z x [q] p Ss):
  ∃fd:gp,(∀(j:ao) (v:ae),lT j fd ⟨[v],[]⟩ [(q,v)])/\∀SA:a5,So.In SA->SA.Ns dJ az->hC R l So az SA hE o ej fd [q] (jM p Ss):=by
 let⟨@fd,a,g⟩:=u;cases h.symm.trans (lq b c g);refine⟨fd,?_,λf U U=>(aO f).fd a⟩;let⟨t,H,b7,i,S4,B,Q,b3,@S,rfl,k,U⟩:=a.ex;exact m b7 i S4 B Q b3
def LK{M:bH}(N:dq So az d z x SJ)(SM:n9 SY SJ (dN z))(c:SJ.length=p)(e:∀a∈SX,a<p)(g:SY.Nodup->∀(Q:ae) (O:bw) (Tc:List eL) (j:ao) (m:ax) (Sv:gk),eE o (O.deeper<|jv d (dN z) j.heap.objs.size x Q)->ja (lK hE R l So az SA SY d (dN z) x Q O Tc j m Sv).mX SX (gb z) M):
  cg R l So az SA (o+1) d z x SJ p (c_ p SY.length SX M):=
 have ⟨_,b,f,H⟩:=N
 ⟨_,b,f,H,N5 b SM c e<|g SM.ah⟩
end
section
variable{b:aL}
variable{H:Nat}
def N_(aO:cg b.prog b.w b.K b.az b.base o d z x SJ p Ss)(a:eE H b.A)(e:eS b d)(g:fM b (c::Sx) M)(h:o<=H:=by decide)(i:(d==("__debug__" : aD))=ar:=by decide)(j:bV (c::Sx) b.env=(ar,ck c b.env)::bV Sx b.env:=by rfl)(k:(f6 SK<|bV Sx b.env).any (·.1)=ar:=by rfl):
  cj b (.Call (.Name d q) (c::Sx) [] SK) (bq p Ss M):=
 have ⟨_,m,f,H,N⟩:=aO
 Oz N (a.mono h) e H m.ea f g i j k
def zc{a:Nat}{y:aD}(aO:cg b.prog b.w b.K b.az b.base o y z x SJ p Ss)(e:eE H b.A)(g:bN b (.Name d q) (ly a))(h:fM b (c::Sx) M)(i:o<=H:=by decide)(j:bV (c::Sx) b.env=(ar,ck c b.env)::bV Sx b.env:=by rfl)(k:(f6 SK<|bV Sx b.env).any (·.1)=ar:=by rfl):
  cj b (.Call (.Name d q) (c::Sx) [] SK) (pv a x p Ss M):=
 have ⟨_,m,f,_,N⟩:=aO
 Nm N (e.mono i) g m.ea f h j k
def bg{a:Int}{i SK}:dI b (.Constant (.int a) i SK) (ai<|aE<|.int a):=aR hb
def au(a:Nat){d:aD}{SK:Pos}(c:b.N[a]?=Z d:=by rfl)(e:tq b.env.scope d:=by first|exact Or.inl rfl|exact Or.inr (Or.inl rfl)|exact Or.inr (Or.inr rfl))(hd:(d==("__debug__" : aD))=ar:=by decide)(f:(d==("__classdict__" : aD))=ar:=by decide):dI b (.Name d SK) (ag a):=QV (CO c e hd f)
def a6{M:aA bP}(a:dI b c M)(d:bV [c] b.env=(ar,ck c b.env)::bV [] b.env:=by rfl):fM b [c] (aq M aB):=kh a p3 d
def jL(a:eE H b.A)(c:dI b g Ts)(d:dI b f To)(e:vE f:=by exact λ_ W=>rfl):cj b (.Subscript g f SK) (aF bR Ts To):=Hg (NX (by have:=a.un;lia)) c d e
def b8{x:bu}{M:aA bP}(a:dI b c M)(d:dI b x e)(f:bV [c,x] b.env=(ar,ck c b.env)::bV [x] b.env:=by rfl)(C:bV [x] b.env=(ar,ck x b.env)::bV [] b.env:=by rfl):fM b [c,x] (aq M<|aq e aB):=kh a (a6 d C) f
def h6{x s:bu}{M o:aA bP}(a:dI b c M)(d:dI b x e)(hd:dI b s o)(f:bV [c,x,s] b.env=(ar,ck c b.env)::bV [x,s] b.env:=by rfl)(t:bV [x,s] b.env=(ar,ck x b.env)::bV [s] b.env:=by rfl)(C:bV [s] b.env=(ar,ck s b.env)::bV [] b.env:=by rfl):fM b [c,x,s] (aq M<|aq e<|aq o aB):=kh a (b8 d hd t C) f
def dz(a:Nat){d:aD}{c:bu}{M:aA ak}{SK i:Pos}(e:b.N.Nodup)(f:cj b c M)(U:b.N[a]?=Z d:=by rfl)(g:kc b.env.scope d:=by exact Or.inl rfl)(h:a∉SX:=by decide)(j:mZ c (Z<|.Name d i) SK.line b.env=pure ar:=by rfl)(l:b.fn d=X\/b.env.scope.names.lookup d=Z .local:=by first|exact .inl rfl|exact .inr rfl|assumption):iC b SX (.Assign [.Name d i] c SK) (bZ a M):=kC e U g f h j l
def iG(a:Nat){d:aD}{SK:Pos}(c:b.N.Nodup)(U:b.N[a]?=Z d:=by rfl)(e:kc b.env.scope d:=by exact Or.inl rfl)(f:a∉SX:=by decide)(g:b.fn d=X\/b.env.scope.names.lookup d=Z .local:=by first|exact .inl rfl|exact .inr rfl|assumption):hv b SX (.Name d SK) (a0 a):=lM c U e f g
def uA:List aD->Bool
 |[]=>X
 |d::k=>!k.contains d&&uA k
theorem GD:∀{k:List aD},uA k=X->k.Nodup
 |[],_=>jb
 |d::k,e=>by
  rw[uA,cX,jo]at e;refine gV.mpr ⟨λa=>?_,GD e.2⟩;rw[List.contains_iff_mem.mpr a]at e;cases e.1
def d7(a:Nat){d:aD}{SK:Pos}(U:b.N[a]?=Z d:=by rfl)(c:uA b.N=X:=by kernel_rfl)(e:kc b.env.scope d:=by exact Or.inl rfl)(f:a∉SX:=by decide)(g:b.fn d=X\/b.env.scope.names.lookup d=Z .local:=by first|exact .inl rfl|exact .inr rfl|assumption):hv b SX (.Name d SK) (a0 a):=lM (GD c) U e f g
def gh{S1 Tr TF:bu}(own:List aD)(SV:List Nat){Q:jW}{y:fp}{TM:aA ak}(U:mA b S1 Tr Q)(c:∀a,hv (b.fL (fT b own SV) SQ a) (oA own.length SV.length) S1 y)(e:∀a,cj (b.fL (fT b own SV) SQ a) TF TM)(SM:uD b.env.scope b.N SQ SV=X:=by kernel_rfl)(f:b.calm=X:=by rfl)(ah:SV.Nodup:=by decide)(g:∀d,ma Tr b.env d=pure d:=by intro W;rfl):cj b (.ListComp TF [⟨S1,Tr,[],0⟩] SQ SK) (b1 own.length SV Q y cP TM):=
 oS f (kn _ _ SM rfl rfl) ah U c (λ_=>zg) e g
def lY{M e:fp}{a}(c:hv b SX g M)(d:hv b SX f e)(h:b.calm=X:=by rfl)(t:(fe [g,f] b.env).map (·.2)=ig g b.env::(fe [f] b.env).map (·.2):=by rfl)(C:(fe [f] b.env).map (·.2)=ig f b.env::(fe [] b.env).map (·.2):=by rfl)(i:(fe [g,f] b.env).length=2:=by rfl)(j:(fe [g,f] b.env).findIdx? (·.1)=Y:=by rfl):hv b SX (.Tuple [g,f] a SK) (gX 2<|dT M<|dT e gJ):=Pn h (tX c (tX d Cd C) t) i j
def c7{id:String}{S9:List ak->Option ak}(a:hu b (.builtin id) S9)(e:b.az d=Y)(f:e8 d=Z (.builtin id))(g:fM b (c::Sx) M)(h:eS b d:=by rfl)(i:d ≠ "__name__" := by decide)(j:(d==("__debug__" : aD))=ar:=by decide)(k:bV (c::Sx) b.env=(ar,ck c b.env)::bV Sx b.env:=by rfl)(l:(f6 SK<|bV Sx b.env).any (·.1)=ar:=by rfl):
  cj b (.Call (.Name d q) (c::Sx) [] SK) (bQ S9 M):=PJ a h e f g i j k l
def b2(aO:cg b.prog b.w b.K b.az b.base o d z x SJ p Ss)(a:eE H b.A)(e:fM b (c::Sx) M)(f:eS b d:=by rfl)(g:o<=H:=by decide)(h:(d==("__debug__" : aD))=ar:=by decide)(i:bV (c::Sx) b.env=(ar,ck c b.env)::bV Sx b.env:=by rfl)(j:(f6 SK<|bV Sx b.env).any (·.1)=ar:=by rfl):
  cj b (.Call (.Name d q) (c::Sx) [] SK) (bq p Ss M):=N_ aO a f e g h i j
def de(a:eE H b.A)(c:dI b g Ts)(d:dI b f To)(e:vE f:=by exact λ_ W=>rfl):dI b (.Subscript g f SK) (ai<|aF bR Ts To):=aR (jL a c d e)
def dj{S9:vF}{x:ak->ak->Option ak}(a:eW b (f3 S9) x)(c:dI b g Ts)(d:dI b f To):dI b (.BinOp g S9 f SK) (ai<|aF x Ts To):=aR (iV a c d)
def hP{a}(e:fM b Sx M):dI b (.Tuple Sx a SK) (ai<|dY M):=aR (j_ e)
end
section
variable{R:bA}{l:bk}{So:Φ}{az:aD->Option ae}{SA e:a5}{o p:Nat}{d:aD}{z:b9}{x:af}{SJ:List aD}{Ss:c0}
def RJ{R:List aD}{E:gE}(g:E.kind=.function:=by rfl)(f:E.isCoroutine=ar:=by rfl)(h:E.isGenerator=ar:=by rfl)(s:SY.Nodup:=by decide +kernel)(c:SY.take R.length=R:=by rfl)(x:∀d∈R,E.names.lookup d=Z .local\/E.names.lookup d=Z .cell:=by decide +kernel)(M:∀y∈E.names,y.2≠.free:=by decide +kernel):n9 SY R E:=⟨g,f,h,s,c,x,M⟩
def d1{M:bH}(SY:List aD)(N:dq So az d z x SJ)(b:SY.Nodup->∀(Q:ae) (O:bw) (Tc:List eL) (j:ao) (m:ax) (Sv:gk),eE o (O.deeper<|jv d (dN z) j.heap.objs.size x Q)->ja (lK hE R l So az SA SY d (dN z) x Q O Tc j m Sv).mX SX (gb z) M)(SM:n9 SY SJ (dN z):=by exact RJ)(c:SJ.length=p:=by rfl)(e:∀a∈SX,a<p:=by decide):cg R l So az SA (o+1) d z x SJ p (c_ p SY.length SX M):=LK N SM c e b
end
end L2
namespace L2
open Spec PyProof.Rows PySem.W
section
variable{Sz:bA}{l:bk}{O:bw}{j:ao}{Sv:ae->ao->Prop}
variable{E:af}
def Pu{Su:rd->ao->Prop}{bF k:List af}{Ss:Array pP->Array pP->Prop}{p:Nat}{R:Nat->ae->Prop}{a3:Nat->ao->Prop}(W:WalksS Sz l O.in1 E bF k Ss p R a3)(d:∀a j,a3 a j->j.TypeIs (.ref E) "list_reverseiterator")(SM:af)(b:Nat)(e:a3 0 j)(f:SM∉bF)(d2:E∈bF)(g:j.heap.get? SM=Z {cls:=.type "list",data:=.seq #[] b})(h:∀Sr c i,Moved (SM::k) Ss j Sr->Sr.heap.get? SM=Z {cls:=.type "list",dict:=Y,data:=.seq c i,slots:=#[]}->qs R c p->Su (.ok<|.ret<|.ref SM) Sr)(m:p<=sizeLine):codeAny (aS Sz l) O (.builtin "list.__iadd__" ⟨[.ref SM,.ref E],[]⟩) Su j:=by
 refine lU F.entry_list_iadd ?_;rw[mN E5 _];show wpAny _ O.in1 (a_.List.listExtendWith (.ref SM) (.ref E)<|.ref SM) _ _ _;exact Jw W d SM _ b e f d2 g h m
variable{k:af}{S:Array ae}
def Pm{D:List ae->ao->Prop}(r:O.handled=Y)(s:k≠E)(o:j.heap.IsList k S)(p:j.heap.IsRevIter E k ((S.size:Int)-1))(t:S.size<=sizeLine)(u:∀(Sq:a5) (Tb:Nat) (g:Array ae),(∀f n,f≠E->j.heap.get? f=Z n->Sq.get? f=Z n)->j.heap.objs.size<=Sq.objs.size->qs (λa v=>S[S.size-1-a]?=Z v) g S.size->D g.toList {j with heap:=Sq,toks:=Tb}):
  wpAny (aS Sz l) O (collect<|.ref E) D Sv j:=by
 have B:E<j.heap.objs.size:=let ⟨n,c,_⟩:=p;cn c
 have C:k<j.heap.objs.size:=let ⟨n,c,_⟩:=o;cn c
 have w:j.heap.objs.size∉[E,k]:=λb=>by
  simp only[cq,nr,iZ]at b;rcases b with e|e<;>lia
 unfold collect;refine aw (wpAny_runValue<|lU F.entry_proto_collect ?_);rw[mN F.plain_proto_collect _];show wpAny _ O.in1 (qQ [] >>= λk=>again<|.builtin "list.__iadd__" ⟨[k,.ref E],[]⟩) _ _ j;refine aw (ib<|aW ⟨kX E5 _,?_⟩);have i:∀h n,j.heap.get? h=Z n->(j.heap.push {cls:=.type "list",data:=.seq ([]:List ae).toArray}).get? h=Z n:=λh n c=>cw _ c;have x:(j.heap.push {cls:=.type "list",data:=.seq ([]:List ae).toArray}).get? j.heap.objs.size=Z {cls:=.type "list",data:=.seq ([]:List ae).toArray}:=dx _ rfl;refine Pu (j:={j with heap:=j.heap.push {cls:=.type "list",data:=.seq ([]:List ae).toArray} }) (O:=O) (mn.listRev (prog:=Sz) (w:=l) (A:=O.in1) r E k s S).toS (λa j d=>d.2.1.typeIs) j.heap.objs.size _ ⟨gI _,?_,o.at λn c=>i _ n c⟩ w (.head _) x (λSr g G b q y=>?_) t
 ·have:(S.size:Int)-1-((0:Nat):Int)=(S.size:Int)-1:=⋯
  rw[this];exact p.at λn c=>i _ n c
 ·show wpAny _ O (load j.heap.objs.size >>= _) _ _ Sr;refine aw (wpAny_load q<|aW ?_);rw[Moved.eq_with b];refine u Sr.heap Sr.toks g (λf n z c=>b.heap f n (λm=>?_)<|i f n c) (rN<|cn q) y;rcases cq.mp m with A|m
  ·exact dU (cn c) A
  ·exact z (cA.mp m)
def Oe{D:ae->ao->Prop}(m:O.handled=Y)(o:k≠E)(p:j.heap.IsList k S)(g:j.heap.IsRevIter E k ((S.size:Int)-1))(h:S.size<=sizeLine)(q:∀(Sq:a5) (Tb:Nat) (i:Array ae),(∀f n,f≠E->j.heap.get? f=Z n->Sq.get? f=Z n)->j.heap.objs.size<=Sq.objs.size->qs (λa v=>S[S.size-1-a]?=Z v) i S.size->D (.ref Sq.objs.size) {j with heap:=Sq.push {cls:=.type "tuple",data:=.seq i},toks:=Tb}):
  wpAny (aS Sz l) O (call (.type "tuple") [.ref E]) D Sv j:=by
 refine BE (Q₁:=λb c=>c.TypeIs b "tuple" /\ D b c) wM (F.typeCall_tuple_1 _) F.entry_object_init (codeAny_of_tree ?_) λb c d=>⟨d.1,F.args_object_init_2 b _,object_init_meets wM.init.lookup wM.made ∅ Sz l O.in1 _ c ⟨d.1,rfl,d.2⟩⟩;show wpAny _ _ (do checkBuiltinCall "tuple.__new__" ⟨[.type "tuple",.ref E],[]⟩;again (.builtin "tuple.__new__" ⟨[.type "tuple",.ref E],[]⟩)) _ _ j;refine aw (s_ (F.newCall_tuple_1 _)<|aW ⟨kX DS _,lU F.entry_tuple_new ?_⟩);rw[mN DS _];have u:=sub_tuple_self;have w:=init_tuple_lookup;have x:=madeHere_tuple;have r:j.TypeIs (.ref E) "list_reverseiterator" := g.typeIs
 wp_walk using wpAny_typeOf r,Pm (O:=O.in1.in1) m o p g h
 intro Sq Tb e ea le it;have s:e.size<=sizeLine:=by rw[it.1];exact h
 show wpAny _ _ (a_.Tuple.tupleExact e.toList.toArray >>= λv=>ret v) _ _ _;unfold a_.Tuple.tupleExact;refine aw (ib (aW ?_) (by show e.toList.toArray.size<=sizeLine;simpa using s));rw[Ac];exact⟨⟨_,dx _ rfl,rfl⟩,q _ _ _ ea le it⟩
end
section
variable{b:aL}
def Mb(So:Φ)(P:fb):b5:=(λA m D=>P A m λSp SD=>∃q SI,Sp=[.ref q]/\dk So SD q SI/\∀k,SD k=Y->D (.ref k) (upd SD k<|.tup SI.reverse))
variable{g:bu}{q Tj SK i:Pos}
def I3{P:fb}(u:b.calm=X)(w:eS b "tuple")(x:b.az "tuple" = Y)(y:eS b "reversed")(z:b.az "reversed" = Y)(B:h1 b [g] P)(F:bV [g] b.env=[(ar,ck g b.env)]:=by rfl):
  bN b (.Call (.Name "tuple" Tj) [.Call (.Name "reversed" q) [g] [] SK] [] i) (Mb b.K P):=by
 intro G j A m D E e;refine rT (n2 E w x (show e8 "tuple" = Z (.type "tuple") by decide +kernel) (qu ?_ rfl rfl) ∅ ∅);refine zH ?_;refine Call_ (n2 E y z (show e8 "reversed" = Z (.type "reversed") by decide +kernel)<|qu (bX (B SK G j A m _ E e) λSO d ⟨Sp,SD,f,H,I⟩=>?_) F rfl);let⟨k,SI,c,J,r⟩:=I;subst c;let⟨L,rfl,M⟩:=ir H;cases M;let⟨SG,Ti,bD,N⟩:=f.list J;have p:=Ti.length;have l:=bD.isList;refine call_reversed_list l (Gh ?_);have ne:k≠d.heap.objs.size:=let ⟨n,c,_⟩:=l;dU (cn c)
 have up:∀h n,d.heap.get? h=Z n->(d.heap.push<|revObj k<|(SG.toArray.size:Int)-1).get? h=Z n:=λh n c=>cw _ c;have le:d.heap.objs.size<=(d.heap.push<|revObj k<|(SG.toArray.size:Int)-1).objs.size:=by show _<=(d.heap.objs.push _).size;rw[Array.size_push];lia
 refine Oe (S:=SG.toArray) (f.ok.hd u) ne (l.at λn c=>up _ n c) ⟨_,dx _ rfl,rfl,rfl⟩ (by simp only[cO];lia) λSq Tb o ea O it=>?_;have Q:bW SI.reverse o.toList:=by
  refine vp (show SI.reverse.length=o.toList.length from (by rw[rA];exact p.trans ⇑(it.1.symm))) λa v L t C=>?_;have U:a<SI.length:=by
   have:=(fX.mp t).1
   rwa [rA]at this
  rw[List.getElem?_reverse U]at t;let⟨al,R,T⟩:=Ti.get t;have:=it.2 a L ⇑C;simp only[cO,G2]at this;rw[<-p,R]at this;cases this;exact T
 have s:=ew le O;exact⟨.ref _,_,f.laid (S5:=Tb) (n:=.tup SI.reverse) (λh n c=>cw _<|ea h n (dU<|cn c)<|up h n c) s ⟨by rw[rA];exact N,o.toList,Q,⟨_,dx _ rfl,rfl,0,by rw[Ac]⟩⟩,rfl,r _<|f.aY.fresh s⟩
@[simp] def wz(M:aA (List bP)):aA ak:=λB=>(M B).bind λq=>(ip q.2 q.1).bind λJ=>match J with
 |[.lst d]=>Z (.im<|.tup d.reverse,q.2)
 |_=>Y
def Hm{M:aA (List bP)}(h:eS b "tuple")(j:b.az "tuple" = Y)(l:eS b "reversed")(o:b.az "reversed" = Y)(d:fM b [g] M)(p:bV [g] b.env=[(ar,ck g b.env)]:=by rfl)(s:b.calm=X:=by rfl):
  cj b (.Call (.Name "tuple" Tj) [.Call (.Name "reversed" q) [g] [] SK] [] i) (wz M):=by
 refine ey (I3 s h j l o d p) λA m D x=>?_;let⟨B,N,u,SR,z,ah,y,r⟩:=x;let⟨⟨P,Sy⟩,t,C⟩:=bS.mp y;let⟨J,G,e⟩:=bS.mp C;refine⟨B,N,P,Sy,z,ah,t,λSp SD F L f E H=>?_⟩;have I:=E.read f G;split at e
 ·cases e;let⟨v,rfl,⟨W,q,w,rfl,S6,S8,W⟩⟩:=gi I;refine⟨q,w,rfl,dk.of S6,λk aT=>?_⟩;have a:cZ SD (upd SD k<|.tup w.reverse):=(cZ.refl SD).upd aT;exact r _ _ F [] (f.mono a.tupS λg W n c=>a g n c) ⟨⟨k,_,rfl,eT,(S8.mono a.tupS.tup).rev⟩,rfl⟩ (H.new a jb (λg d=>nomatch d) f.chg)
 ·cases e
end
end L2
namespace G
open L2
def Me:bH:=((cF<|fx<|d5 (a8<|k5 "int"<|ag 0)<|a8<|fx<|eJ<|a8<|k5 "bool"<|ag 0))
def vT:c0:=(c_ 1 1 [0] Me)
def IX:bH:=((cF<|fx<|d5 (a8<|k5 "tuple"<|ag 0)<|d5 (a8<|aF er (ai<|bQ dd<|aq (ag 0) aB)<|ai<|aE<|.int 2)<|d5 (a8<|bq 1 G.vT<|aq (ai<|aF bR (ag 0)<|ai<|aE<|.int 0) aB)<|a8<|bq 1 G.vT<|aq (ai<|aF bR (ag 0)<|ai<|aE<|.int 1) aB))
def j8:c0:=(c_ 1 1 [0] IX)
def Cf:bH:=((cF<|fx<|d5 (a8<|bq 1 G.j8<|aq (ag 0) aB)<|d5 (a8<|h5 fR fR (ai<|aE<|.int 0) (ai<|aF bR (ag 0)<|ai<|aE<|.int 0)<|ai<|aE<|.int 30)<|a8<|h5 fR fR (ai<|aE<|.int 0) (ai<|aF bR (ag 0)<|ai<|aE<|.int 1)<|ai<|aE<|.int 30))
def iW:c0:=(c_ 1 1 [0] Cf)
def xU(a:af):aA ak:=((pv 1 a 1 G.iW<|aq (ag 0) aB))
def AK(a:af):aA ak:=((aF oN (ag 0)<|ag 1))
def DD(a:af):bH:=((bt (dy (fG (eJ<|eP<|ai<|k5 "tuple"<|ag 0)<|eJ<|eP<|ai<|bQ hr<|aq (ai<|b1 1 [1] (b4<|ag 0) (a0 0) cP<|G.xU a) aB) (cF<|aE<|.av ar) en)<|cF<|bQ hr<|aq (ai<|b1 2 [] (jS<|aq (ag 0)<|aq (ai<|iy (ag 0) (iJ<|aE<|.int 1) jc) aB) (gX 2<|dT (a0 0)<|dT (a0 1) gJ) cP<|G.AK a) aB))
def r0(a:af):c0:=(c_ 2 2 [0,1] (DD a))
def E0(a:af):bH:=((cF<|bq 2 (G.r0 a)<|aq (ag 0)<|aq (ai<|aE<|.fn a) aB))
def q0(a:af):c0:=(c_ 1 1 [0] (E0 a))
def qq:bH:=((gW (aE<|.av X)<|i7 1 (et 2) gN))
def rp:bH:=((bt (bZ 1 wc)<|bt (gj (b4<|ag 0) (a0 2) G.qq)<|cF<|et 1))
def f9:c0:=(c_ 1 3 [0] rp)
def OK:bH:=((bt (bZ 1<|aF bR (ag 0)<|ai<|aE<|.int 0)<|bt (bZ 2<|aF bR (ag 0)<|ai<|aE<|.int 1)<|cF<|eV<|aq (ai<|dY<|aq (ai<|aF p4 (ag 1)<|ai<|aE<|.int 1)<|aq (ag 2) aB)<|aq (ai<|dY<|aq (ag 1)<|aq (ai<|aF p4 (ag 2)<|ai<|aE<|.int 1) aB)<|aq (ai<|dY<|aq (ag 1)<|aq (ai<|aF e0 (ag 2)<|ai<|aE<|.int 1) aB)<|aq (ai<|dY<|aq (ai<|aF e0 (ag 1)<|ai<|aE<|.int 1)<|aq (ag 2) aB) aB))
def i1:c0:=(c_ 1 3 [0] OK)
def An:aA ak:=((dY<|aq (ag 0)<|aq (ai<|aE<|.str "in") aB))
def Em:aA Bool:=((a8<|aF eG (ag 0)<|ag 1))
def yr:bH:=((bt (bZ 2<|aF bR (ag 1)<|ai<|aE<|.int 0)<|bt (dy (a8<|aF er (ai<|aF bR (ag 1)<|ai<|aE<|.int 1)<|ai<|aE<|.str "in") (cF<|eV<|aq (ai<|dY<|aq (ai<|aF bR (ag 0)<|ag 2)<|aq (ai<|aE<|.str "out") aB) aB) en)<|cF<|aF e0 (ai<|eV<|aq (ai<|dY<|aq (ag 2)<|aq (ai<|aE<|.str "in") aB) aB)<|ai<|b1 1 [0] (b4<|ai<|bq 1 G.i1<|aq (ag 2) aB) (a0 0) G.Em G.An))
def oj:c0:=(c_ 2 3 [0,1] yr)
def rG:bH:=((dy (a8<|aF eY (ag 7)<|ag 3) (bt (gW (et 6)<|i7 3 (et 7) gN)<|ie<|gw hj 5 kP<|aq (ag 7) aB) en))
def q5:bH:=((gj (b4<|ai<|bq 2 G.oj<|aq (ag 0)<|aq (ag 6) aB) (a0 7) G.rG))
def BH:aA Bool:=((eP<|ag 4))
def wx:bH:=((bt (bZ 5<|eV aB)<|bt (gj (b4<|ag 4) (a0 6) G.q5)<|bZ 4<|et 5))
def B1:bH:=((bt (bZ 2<|dY<|aq (ag 1)<|aq (ai<|aE<|.str "out") aB)<|bt (bZ 3<|vq (et 2)<|aE .aV)<|bt (bZ 4<|eV<|aq (ag 2) aB)<|bt (il G.BH G.wx 1000000)<|cF<|et 3))
def rH:c0:=(c_ 2 8 [0,1] B1)
def AI:aA Bool:=((a8<|aF (rx X) (ai<|aF bR (ag 1)<|ag 3)<|ai<|aE .aV))
def u1:bH:=((bt (dy (a8<|aF er (ai<|aF bR (ag 3)<|ai<|aE<|.int 1)<|ai<|aE<|.str "in") (gW (aF bR (ai<|aF bR (ag 1)<|ag 3)<|ai<|aE<|.int 0)<|i7 0 (aF bR (ag 3)<|ai<|aE<|.int 0) gN) en)<|bZ 3<|aF bR (ag 1)<|ag 3))
def Bk:bH:=((bt (bZ 3<|dY<|aq (ag 2)<|aq (ai<|aE<|.str "out") aB)<|il G.AI G.u1 1000000))
def ry:c0:=(c_ 3 4 [0,1,2] Bk)
def y7:aA Bool:=((a8<|aF hn (ai<|aF bR (ag 3)<|ai<|oc<|aE<|.int 1)<|ag 1))
def FA:bH:=((ie<|gw hj 3 kP<|aq (ai<|aF bR (ag 0)<|ai<|aF bR (ag 3)<|ai<|oc<|aE<|.int 1) aB))
def z1:bH:=((bt (bZ 3<|eV<|aq (ag 2) aB)<|bt (il G.y7 G.FA 1000000)<|cF<|et 3))
def pw:c0:=(c_ 3 4 [0,1,2] z1)
def G0:aA ak:=((dY<|aq (ag 0)<|aq (ag 0) aB))
def xS:aA Bool:=((a8<|aF eG (ai<|dY<|aq (ag 2)<|aq (ai<|aE<|.str "in") aB)<|ag 5))
def sj:bH:=((bt (ie<|gw hj 4 kP<|aq (ai<|aF bR (ai<|aF bR (ag 5)<|ai<|dY<|aq (ag 2)<|aq (ai<|aE<|.str "in") aB)<|ai<|aE<|.int 0) aB)<|bt (ie<|bq 3 G.ry<|aq (ag 3)<|aq (ag 5)<|aq (ai<|aF bR (ag 4)<|ai<|oc<|aE<|.int 1) aB)<|bZ 5<|bq 2 G.rH<|aq (ag 3)<|aq (ag 1) aB))
def z0:aA ak:=((et 0))
def vU:aA Bool:=((d5 (a8<|aF eG (ai<|dY<|aq (ag 0)<|aq (ai<|aE<|.str "in") aB)<|ag 1)<|a8<|aF eY (ai<|dY<|aq (ag 0)<|aq (ai<|aE<|.str "out") aB)<|ag 1))
def vx:aA ak:=((wz<|aq (ai<|aF e0 (ai<|eV<|aq (ag 1) aB)<|ai<|bq 3 G.pw<|aq (ag 2)<|aq (ag 3)<|aq (ag 0) aB) aB))
def FK:bH:=((bt (dy (fG (a8<|aF er (ag 1)<|ag 2)<|a8<|aF eG (ag 2)<|ai<|bq 1 G.i1<|aq (ag 1) aB) DF en)<|bt (bZ 3<|bQ ob<|aq (ai<|b1 1 [] (b4<|ag 0) (a0 0) cP G.G0) aB)<|bt (bZ 4<|eV aB)<|bt (bZ 5<|bq 2 G.rH<|aq (ag 3)<|aq (ag 1) aB)<|bt (il G.xS G.sj 1000000)<|bt (bZ 6<|b1 1 [5] (b4<|ag 0) (a0 0) G.vU G.z0)<|bt (bZ 7<|b1 1 [2,3,1] (b4<|ag 4) (a0 0) cP G.vx)<|cF<|dY<|aq (ai<|bQ gY<|aq (ag 6) aB)<|aq (ai<|bQ gY<|aq (ai<|bQ hD<|aq (ag 7) aB) aB) aB))
def nH:c0:=(c_ 3 8 [0,1,2] FK)
def yH:aA ak:=((et 0))
def u6:aA Bool:=((d5 (a8<|aF hn (ag 0)<|ag 1)<|a8<|aF eY (ag 0)<|ai<|bq 1 G.mH<|aq (ag 1) aB))
def xd:bH:=((bt (bZ 2<|aF bR (ag 1)<|ai<|bq 2 G.fQ<|aq (ag 0)<|aq (ai<|bQ dd<|aq (ag 1) aB) aB)<|bt (bZ 3<|b1 1 [2] (b4<|ag 1) (a0 0) G.u6 G.yH)<|bt (dy (a8<|aF er (ag 3)<|ai<|eV aB) (cF<|aE .aV) en)<|cF<|dY<|aq (ag 2)<|aq (ai<|aF bR (ag 3)<|ai<|bq 2 G.fQ<|aq (ag 0)<|aq (ai<|bQ dd<|aq (ag 3) aB) aB) aB))
def nI:c0:=(c_ 2 4 [0,1] xd)
end G
namespace bG
variable{aj:Type}[DecidableEq aj]
structure dG(N:List aj)(b:aj->aj->Prop)(g f:aj)(x:aj->aj)(D:List aj):Prop where
 ej:x g=g
 x8:x f=f
 fu:∀h,x h≠h->h∈N/\x h∈N/\b (x h) h
 one:∀h s,x h≠h->x s≠s->x h=x s->x h≠g->h=s
 on:∀h,x h≠h->x h≠g->x (x h)≠x h
 ah:D.Nodup
 last:∀k∈D,x k≠k/\b k f/\∀s,x s≠s->x s≠k
 ends:∀h,x h≠h->(∀s,x s≠s->x s≠h)->h∈D
structure Rs(N:List aj)(b:aj->aj->Prop)(g f:aj)(x:aj->aj)(SM:aj->Bool->Prop):Prop where
 start:SM g X
 back:∀h,SM h ar->SM (x h) X
 c1:∀h,SM h X->SM h ar
 next:∀h s,SM h X->b h s->SM s ar
 y9:¬ SM f ar
variable{N:List aj}{b:aj->aj->Prop}{g f:aj}{x:aj->aj}{D:List aj}{SM:aj->Bool->Prop}
def Cut(SM:aj->Bool->Prop)(h:aj):Prop:=(SM h ar/\¬ SM h X)
def Cut.fu(Su:Rs N b g f x SM){h:aj}(e:Cut SM h):x h≠h:=λc=>e.2 (by have:=Su.back h e.1;rwa [c]at this)
def it(x:aj->aj):Nat->aj->aj
 |0,h=>h
 |p+1,h=>it x p (x h)
theorem iF(x:aj->aj):∀(p:Nat) (h:aj),it x (p+1) h=x (it x p h)
 |0,h=>rfl
 |p+1,h=>iF x p (x h)
theorem up(Su:Rs N b g f x SM){h:aj}(e:SM h X):∀p,SM (it x p h) X
 |0=>e
 |p+1=>by rw[iF];exact Su.back _ (Su.c1 _<|up Su e p)
theorem kZ(x:aj->aj)(H:Nat):∀(p:Nat) (h:aj),it x (H+p) h=it x H (it x p h)
 |0,h=>rfl
 |p+1,h=>kZ x H p (x h)
def dG.ne(W:dG N b g f x D){h:aj}(e:x h≠h):h≠g:=λc=>e (c ▸ W.ej)
theorem dG.pull(W:dG N b g f x D){h s:aj}:∀p:Nat,(∀a,a<=p->x (it x a h)≠it x a h)->(∀a,a<=p->x (it x a s)≠it x a s)->it x p h=it x p s->h=s
 |0,_,_,c=>c
 |p+1,d,hd,c=>by
  rw[iF,iF]at c;refine W.pull p (λa U=>d a (by omega)) (λa U=>hd a (by omega)) (W.one _ _ (d p (by omega)) (hd p (by omega)) c λe=>?_);have:=d (p+1) (bl _);rw[iF,e]at this;exact this W.ej
def dG.dist(W:dG N b g f x D){k:aj}(d:k∈D){a i:Nat}(l:a<i)(e:∀o,o<=i->x (it x o k)≠it x o k):it x a k≠it x i k:=λc=>by
 obtain⟨o,rfl⟩:∃o,i=a+(o+1):=⟨i-a-1,by omega⟩;rw[kZ]at c;have:=W.pull a (h:=k) (s:=it x (o+1) k) (λH j=>e H (by omega)) (λH j=>by rw[<-kZ];exact e _ (by omega)) c;rw[iF]at this;exact (W.last k d).2.2 _ (e o (by omega)) this.symm
def tN{N:List aj}{M:Nat->aj}{p:Nat}(c:∀a<p,M a∈N)(hd:∀a i,a<i->i<p->M a≠M i):p<=N.length:=by
 have ah:((range p).map M).Nodup:=by
  rw[nx,mE];exact GR.imp_of_mem λ{d y} b f e=>hd d y e (gr.mp f)
 have:=ah.length_le_of_subset (l₂:=N) (by
  intro d b;let⟨a,U,rfl⟩:=cH.mp b;exact c a (gr.mp U))
 rwa [a9,iP]at this
def dG.comes(W:dG N b g f x D){k:aj}(l:k∈D):∃p,it x (p+1) k=g/\∀o,o<=p->x (it x o k)≠it x o k:=by
 have Th:∃H,x (it x H k)=it x H k:=p8 λh=>by
  have all:∀o,x (it x o k)≠it x o k:=λo c=>h ⟨o,c⟩;have:=tN (N:=N) (M:=λo=>it x o k) (p:=N.length+1) (λa U=>(W.fu _<|all a).1) λa i m U=>W.dist l m λo U=>all o;omega
 obtain⟨H,d,lt⟩:∃H,x (it x H k)=it x H k/\∀o<H,x (it x o k)≠it x o k:=by
  let⟨H,d⟩:=Th;induction H using Nat.strongRecOn with
  |ind H n=>
   by_cases e:∃o<H,x (it x o k)=it x o k
   ·let⟨o,j,c⟩:=e;exact n o j c
   ·exact⟨H,d,λo j c=>e ⟨o,j,c⟩⟩
 cases H with
 |zero=>exact absurd d (W.last k l).1
 |succ p=>
  refine⟨p,p8 λh=>?_,λo j=>lt o (by omega)⟩;rw[iF]at d h;exact W.on _ (lt p (by omega)) h d
def dG.meets(W:dG N b g f x D)(Su:Rs N b g f x SM){k:aj}(i:k∈D):∃p,Cut SM (it x p k)/\∀o,o<=p->x (it x o k)≠it x o k:=by
 let⟨SY,l,fu⟩:=W.comes i;have m:¬ SM (it x 0 k) X:=λd=>Su.y9 (Su.next _ _ d (W.last k i).2.1);have P:∀p,p<=SY+1->(∀o,o<=p->¬ SM (it x o k) X)\/∃o<p,¬ SM (it x o k) X/\SM (it x (o+1) k) X:=λp=>by
  induction p with
  |zero=>exact λ_=>.inl λo h=>by rw[yk.mp h];exact m
  |succ p n=>
   intro s;rcases n (by omega) with e|⟨o,h,c⟩
   ·by_cases d:SM (it x (p+1) k) X
    ·exact .inr ⟨p,by omega,e p<|bl _,d⟩
    ·refine .inl λo h=>?_;rcases jf o (p+1) with r|r
     ·exact e o (by omega)
     ·rw[show o=p+1 by omega];exact d
   ·exact .inr ⟨o,by omega,c⟩
 rcases P (SY+1) (bl _) with e|⟨o,h,q,j⟩
 ·exact absurd Su.start (by have:=e (SY+1) (bl _);rwa [l]at this)
 ·have H:=fu o (by omega);rw[iF]at j;exact⟨o,⟨Su.next _ _ j (W.fu _ H).2.2,q⟩,λa U=>fu a (by omega)⟩
def Rs.once(Su:Rs N b g f x SM){k:aj}{p H:Nat}(t:Cut SM (it x p k))(C:Cut SM (it x H k)):p=H:=by
 have P:∀{p H:Nat},p<H->Cut SM (it x p k)->Cut SM (it x H k)->False:=λ{p H} e t C=>by
  obtain⟨o,rfl⟩:∃o,H=o+(p+1):=⟨H-p-1,by omega⟩;rw[kZ,iF]at C;exact C.2 (up Su (Su.back _ t.1) o)
 rcases qS p H with e|e|e
 ·exact absurd (P e t C) id
 ·exact e
 ·exact absurd (P e C t) id
def dG.inj(W:dG N b g f x D){k H:aj}(d:k∈D)(h:H∈D){a i:Nat}(t:∀o,o<=a->x (it x o k)≠it x o k)(C:∀o,o<=i->x (it x o H)≠it x o H)(c:it x a k=it x i H):k=H:=by
 have P:∀{k H:aj},k∈D->H∈D->∀{a i:Nat},a<=i->(∀o,o<=a->x (it x o k)≠it x o k)->(∀o,o<=i->x (it x o H)≠it x o H)->it x a k=it x i H->k=H:=λ{k H} d h {a i} j t C c=>by
  obtain⟨o,rfl⟩:∃o,i=a+o:=⟨i-a,by omega⟩;rw[kZ]at c;have:=W.pull a t (λr l=>by rw[<-kZ];exact C _ (by omega)) c;cases o with
  |zero=>exact this
  |succ o=>
   rw[iF]at this;exact absurd this.symm ((W.last k d).2.2 _ (C o (by omega)))
 rcases Nat.le_total a i with e|e
 ·exact P d h e t C c
 ·exact (P h d e C t c.symm).symm
def dG.EM(W:dG N b g f x D)(Su:Rs N b g f x SM){h:aj}(m:Cut SM h):∃k∈D,∃p,it x p k=h/\∀o,o<=p->x (it x o k)≠it x o k:=by
 have go:∀(l o:Nat) (s:aj),N.length+1<=l+o->it x o s=h->(∀a,a<=o->x (it x a s)≠it x a s)->∃k∈D,∃p,it x p k=h/\∀o,o<=p->x (it x o k)≠it x o k:=λl=>by
  induction l with
  |zero=>
   intro o s q c fu;exfalso;have:=tN (N:=N) (M:=λa=>it x a s) (p:=o+1) (λa U=>(W.fu _ (fu a (by omega))).1) λa i y z j=>by
    have j:it x a s=it x i s:=j;obtain⟨r,rfl⟩:∃r,o=r+i:=⟨o-i,by omega⟩;obtain⟨u,rfl⟩:∃u,i=a+(u+1):=⟨i-a-1,by omega⟩;have t:it x (r+a) s=h:=by rw[kZ,j,<-kZ];exact c
    have v:it x (u+1) h=h:=by
     have:it x ((u+1)+(r+a)) s=h:=by rw[show u+1+(r+a)=r+(a+(u+1)) by omega];exact c
     rw[kZ,t]at this;exact this
    exact m.2 (by rw[<-v];exact up Su (Su.back _ m.1) u)
   omega
  |succ l w=>
   intro o s q c fu;by_cases e:∃d,x d≠d/\x d=s
   ·let⟨d,n,rfl⟩:=e;refine w (o+1) d (by omega) c λa U=>?_;cases a with
    |zero=>exact n
    |succ a=>exact fu a (by omega)
   ·exact⟨s,W.ends s (fu 0<|gI _) λd n j=>e ⟨d,n,j⟩,o,c,fu⟩
 exact go (N.length+1) 0 h (by omega) rfl λa U=>by rw[yk.mp U];exact Cut.fu Su m
def dG.many(W:dG N b g f x D)(Su:Rs N b g f x SM)(w:N.Nodup){r:aj->Bool}(l:∀h∈N,r h=X↔Cut SM h):(N.filter r).length=D.length:=by
 have m:∀k:aj,∃h:aj,k∈D->Cut SM h/\∃p,it x p k=h/\∀o,o<=p->x (it x o k)≠it x o k:=λk=>by
  by_cases e:k∈D
  ·let⟨p,t,C⟩:=W.meets Su e;exact⟨_,λ_=>⟨t,p,rfl,C⟩⟩
  ·exact⟨k,λz=>absurd z e⟩
 obtain⟨a,i⟩:∃a:aj->aj,∀k,k∈D->Cut SM (a k)/\∃p,it x p k=a k/\∀o,o<=p->x (it x o k)≠it x o k:=⟨λk=>(m k).choose,λk=>(m k).choose_spec⟩;have ah:(D.map a).Nodup:=by
  rw[nx,mE];refine (nx.mp W.ah).imp_of_mem λ{d y} n q e c=>e ?_;let⟨U,p,A,B⟩:=i d n;let⟨U,H,E,F⟩:=i y q;exact W.inj n q B F (by rw[A,E,c])
 have S4:(N.filter r).Perm (D.map a):=(wu (w.filter _) ah).mpr λh=>by
  rw[gv,cH];constructor
  ·rintro⟨t,C⟩;have s:=(l h t).mp C;let⟨k,j,p,c,fu⟩:=W.EM Su s;let⟨G,H,u,U⟩:=i k j;refine⟨k,j,?_⟩;rw[<-u,<-c,Su.once (k:=k) (p:=H) (H:=p) (by rw[u];exact G) (by rw[c];exact s)]
  ·rintro⟨k,j,rfl⟩;have:=(i k j).1;have v:=(W.fu _<|Cut.fu Su this).1;exact⟨v,(l _ v).mpr this⟩
 rw[S4.length_eq,a9]
end bG
namespace bG
variable{aj:Type}[DecidableEq aj]{N:List aj}{b:aj->aj->Prop}{g f:aj}{x M:aj->aj}{D:List aj}
structure pE(N:List aj)(b:aj->aj->Prop)(g f:aj)(x M:aj->aj)(o:Nat)(h s:Nat->aj):Prop where
 l0:s 0=g
 ds:∀a<o,s (a+1)=x (h a)
 step:∀a<o,h a=s a\/b (s a) (h a)
 ci:∀a i,a<o->i<o->h a=h i->a=i
 rb:∀a i,a<=o->i<=o->s a=s i->a=i
 nb:∀a<o,h a≠f
 cT:∀a<o,M (h a)=s a
 fi:∀d,(∀a<o,h a≠d)->M d=x d
variable{o:Nat}{h s:Nat->aj}
def pE.na(W:dG N b g f x D)(R:pE N b g f x M o h s){a:Nat}(U:a<o):h a≠g:=λc=>by
 have:=R.ds a U;rw[c,W.ej,<-R.l0]at this;exact absurd (R.rb _ _ (by omega) (by omega) this) (by omega)
def pE.out(R:pE N b g f x M o h s){a:Nat}(U:a<=o)(e:s a≠g):∃i<o,a=i+1/\s a=x (h i):=by
 cases a with
 |zero=>exact absurd R.l0 e
 |succ i=>exact⟨i,by omega,rfl,R.ds i (by omega)⟩
def lay(W:dG N b g f x D)(R:pE N b g f x M o h s)(F:∀d y,b d y->d∈N/\y∈N)(G:b (s o) f)(O:¬ b g f):dG N b g f M (D++[s o]):=by
 have I:s o≠g:=λc=>O (by rw[<-c];exact G);have q:∀d,(∃a<o,h a=d)\/∀a<o,h a≠d:=λd=>by
  by_cases e:∃a<o,h a=d
  ·exact .inl e
  ·exact .inr λa U c=>e ⟨a,U,c⟩
 have B:∀k∈D,∀a,a<=o->s a≠k:=λk p a U c=>by
  have C:=(W.last k p).1;let⟨i,l,rfl,n⟩:=R.out U (by rw[c];exact W.ne C);rw[c]at n;by_cases H:x (h i)=h i
  ·rw[H]at n;rw[n]at C;exact C H
  ·exact (W.last k p).2.2 _ H n.symm
 have z:∀d,x d≠d->(∀a<o,h a≠d)->x d≠g->∀a,a<=o->s a≠x d:=λd j bo A a U c=>by
  let⟨i,l,rfl,n⟩:=R.out U (by rw[c];exact A);rw[c]at n;by_cases H:x (h i)=h i
  ·have:=W.on d j A;rw[n,H,H]at this;exact this rfl
  ·exact bo i l (W.one _ _ H j n.symm (by rw[<-n];exact A))
 have L:∀a,a<=o->s a≠g->(∀i<o,h i≠s a)->x (s a)≠s a:=λa U A P=>by
  let⟨i,l,rfl,n⟩:=R.out U A;by_cases H:x (h i)=h i
  ·rw[H]at n;exact absurd n.symm (P i l)
  ·rw[n];exact W.on _ H (by rw[<-n];exact A)
 refine⟨?_,?_,λd j=>?_,λd y j t c A=>?_,λd j A=>?_,?_,λk p=>?_,λd j bo=>?_⟩
 ·rw[R.fi g λa U=>R.na W U];exact W.ej
 ·rw[R.fi f λa U=>R.nb a U];exact W.x8
 ·rcases q d with ⟨a,U,rfl⟩|e
  ·rw[R.cT a U]at j ⊢;have ad:=(R.step a U).resolve_left λu=>j u.symm;exact⟨(F _ _ ad).2,(F _ _ ad).1,ad⟩
  ·rw[R.fi d e]at j ⊢;exact W.fu d j
 ·rcases q d with ⟨a,U,rfl⟩|v<;>rcases q y with ⟨i,l,rfl⟩|m
  ·rw[R.cT a U,R.cT i l]at c;rw[R.rb a i (by omega) (by omega) c]
  ·rw[R.cT a U,R.fi y m]at c;rw[R.cT a U,c]at A;rw[R.fi y m]at t;exact absurd c (z y t m A a (by omega))
  ·rw[R.fi d v,R.cT i l]at c;rw[R.fi d v]at A j;exact absurd c.symm (z d j v A i (by omega))
  ·rw[R.fi d v,R.fi y m]at c;rw[R.fi d v]at A j;rw[R.fi y m]at t;exact W.one d y j t c A
 ·rcases q d with ⟨a,U,rfl⟩|v
  ·rw[R.cT a U]at j A ⊢;rcases q (s a) with ⟨i,l,w⟩|e
   ·rw[<-w,R.cT i l,w];intro u;have:=R.rb i a (by omega) (by omega) u;subst this;exact j w.symm
   ·rw[R.fi _ e];exact L a (by omega) A e
  ·rw[R.fi d v]at j A ⊢;rcases q (x d) with ⟨i,l,w⟩|e
   ·rw[<-w,R.cT i l,w];exact z d j v A i (by omega)
   ·rw[R.fi _ e];exact W.on d j A
 ·refine df.mpr ⟨W.ah,by simp,λd v y m c=>?_⟩;rw[cA]at m;subst c m;exact B _ v o (bl _) rfl
 ·rcases dt.mp p with p|p
  ·refine⟨?_,(W.last k p).2.1,λy t c=>?_⟩
   ·rcases q k with ⟨a,U,rfl⟩|e
    ·rw[R.cT a U];exact B _ p a (by omega)
    ·rw[R.fi k e];exact (W.last k p).1
   ·rcases q y with ⟨i,l,rfl⟩|m
    ·rw[R.cT i l]at c;exact B k p i (by omega) c
    ·rw[R.fi y m]at c t;exact (W.last k p).2.2 y t c
  ·rw[cA]at p;subst p;refine⟨?_,G,λy t c=>?_⟩
   ·rcases q (s o) with ⟨i,l,w⟩|e
    ·rw[<-w,R.cT i l,w];intro u;exact absurd (R.rb i o (by omega) (bl _) u) (by omega)
    ·rw[R.fi _ e];exact L o (bl _) I e
   ·rcases q y with ⟨i,l,rfl⟩|m
    ·rw[R.cT i l]at c;exact absurd (R.rb i o (by omega) (bl _) c) (by omega)
    ·rw[R.fi y m]at c t;exact z y t m (by rw[c];exact I) o (bl _) c.symm
 ·by_cases hd:∃a,a<=o/\s a=d
  ·let⟨a,U,rfl⟩:=hd;rcases jf a o with r|r
   ·exfalso;refine bo (h a) ?_ (R.cT a r);rw[R.cT a r];intro u;rw[u,R.cT a r,u]at j;exact j rfl
   ·rw[show a=o by omega];exact dQ _ (.head _)
  ·have ah:∀a,a<=o->s a≠d:=λa U c=>hd ⟨a,U,c⟩;refine dK _ (W.ends d ?_ λy t c=>?_)
   ·rcases q d with ⟨a,U,rfl⟩|e
    ·exact λu=>ah (a+1) (by omega) ((R.ds a U).trans u)
    ·rw[R.fi d e]at j;exact j
   ·rcases q y with ⟨i,l,rfl⟩|m
    ·exact ah (i+1) (by omega) ((R.ds i l).trans c)
    ·exact bo y (by rw[R.fi y m];exact t) (by rw[R.fi y m];exact c)
end bG
namespace bG
variable{aj:Type}[DecidableEq aj]{N:List aj}{b:aj->aj->Prop}{g f:aj}{x M:aj->aj}{D:List aj}
def u3(x:aj->aj)(b:aj->aj->Prop)(q j:aj×Bool):Prop:=((q.2=ar/\j=(x q.1,X))\/(q.2=X/\j.2=ar/\(j.1=q.1\/b q.1 j.1)))
structure k2(x:aj->aj)(b:aj->aj->Prop)(g:aj)(SE:List ((aj×Bool)×Option (aj×Bool))):Prop where
 ah:(SE.map (·.1)).Nodup
 par:∀(a:Nat) (j q:aj×Bool),SE[a]?=Z (j,Z q)->∃i<a,∃r,SE[i]?=Z (q,r)/\u3 x b q j
 root:∀(a:Nat) (j:aj×Bool),SE[a]?=Z (j,Y)->j=(g,X)
variable{SE:List ((aj×Bool)×Option (aj×Bool))}
structure nf(x:aj->aj)(b:aj->aj->Prop)(g:aj)(SE:List ((aj×Bool)×Option (aj×Bool)))(o:Nat)(h s:Nat->aj)(u m:Nat->Nat):Prop where
 l0:s 0=g
 ha:SE[m 0]?=Z ((g,X),Y)
 ds:∀a<o,s (a+1)=x (h a)
 step:∀a<o,h a=s a\/b (s a) (h a)
 lc:∀a<o,SE[u a]?=Z ((h a,ar),Z (s a,X))
 ld:∀a<o,SE[m (a+1)]?=Z ((s<|a+1,X),Z (h a,ar))
 aX:∀a<o,m a<u a
 bp:∀a<o,u a<m (a+1)
def k2.path(S:k2 x b g SE):∀(a:Nat) {d:aj}{r:Option (aj×Bool)},SE[a]?=Z ((d,X),r)->∃o h s u m,nf x b g SE o h s u m/\s o=d/\m o=a:=by
 intro a;induction a using Nat.strongRecOn with
 |ind a z=>
  intro d r e;cases r with
  |none=>
   have c:=S.root a _ e;have Th:d=g:=congrArg Prod.fst c;subst Th;exact⟨0,λ_=>d,λ_=>d,λ_=>a,λ_=>a,⟨rfl,e,λ_ f=>absurd f (by omega),λ_ f=>absurd f (by omega),λ_ f=>absurd f (by omega),λ_ f=>absurd f (by omega),λ_ f=>absurd f (by omega),λ_ f=>absurd f (by omega)⟩,rfl,rfl⟩
  |some q=>
   let⟨i,A,B,l,c⟩:=S.par a _ q e;let⟨y,C⟩:=q;rcases c with ⟨n,p⟩|⟨_,p,_⟩
   ·have n:C=ar:=n;subst n;have Th:d=x y:=congrArg Prod.fst p;cases B with
    |none=>have:=congrArg Prod.snd (S.root i _ l);cases this
    |some v=>
     let⟨D,E,N,F,G⟩:=S.par i _ v l;let⟨f,I⟩:=v;rcases G with ⟨_,j⟩|⟨j,_,L⟩
     ·have:=congrArg Prod.snd j;cases this
     ·have j:I=X:=j;subst j;let⟨o,h,s,u,m,R,w,M⟩:=z D (by omega) F;refine⟨o+1,λH=>if H<o then h H else y,λH=>if H<=o then s H else d,λH=>if H<o then u H else i,λH=>if H<=o then m H else a,⟨?_,?_,λH k=>?_,λH k=>?_,λH k=>?_,λH k=>?_,λH k=>?_,λH k=>?_⟩,?_,?_⟩
      ·simpa using R.l0
      ·simpa using R.ha
      ·by_cases t:H<o
       ·simp only[aJ t,aJ (show H+1<=o by omega)];exact R.ds H t
       ·simp only[aM t,aM (show ¬ H+1<=o by omega)];exact Th
      ·by_cases t:H<o
       ·simp only[aJ t,aJ (show H<=o by omega)];exact R.step H t
       ·simp only[aM t,aJ (show H<=o by omega)];rw[show H=o by omega,w];exact L
      ·by_cases t:H<o
       ·simp only[aJ t,aJ (show H<=o by omega)];exact R.lc H t
       ·simp only[aM t,aJ (show H<=o by omega)];rw[show H=o by omega,w];exact l
      ·by_cases t:H<o
       ·simp only[aJ t,aJ (show H+1<=o by omega)];exact R.ld H t
       ·simp only[aM t,aM (show ¬ H+1<=o by omega)];exact e
      ·by_cases t:H<o
       ·simp only[aJ t,aJ (show H<=o by omega)];exact R.aX H t
       ·simp only[aM t,aJ (show H<=o by omega)];rw[show H=o by omega,M];exact E
      ·by_cases t:H<o
       ·simp only[aJ t,aJ (show H+1<=o by omega)];exact R.bp H t
       ·simp only[aM t,aM (show ¬ H+1<=o by omega)];exact A
      ·simp only[aM (show ¬ o+1<=o by omega)]
      ·simp only[aM (show ¬ o+1<=o by omega)]
   ·cases p
def k2.mj(S:k2 x b g SE){a i:Nat}{j:aj×Bool}{r u:Option (aj×Bool)}(t:SE[a]?=Z (j,r))(C:SE[i]?=Z (j,u)):a=i:=by
 have lt:a<(SE.map (·.1)).length:=by rw[a9];exact (fX.mp t).1
 exact (List.getElem?_inj lt S.ah).mp (by rw[gq,gq,t,C];rfl)
section
variable{o:Nat}{h s:Nat->aj}{u m:Nat->Nat}
theorem nf.up(R:nf x b g SE o h s u m){a:Nat}:∀{i:Nat},a<=i->i<=o->m a<=m i
 |0,e,_=>by rw[yk.mp e];exact bl _
 |i+1,e,c=>by
  rcases jf a (i+1) with r|r
  ·have:=R.up (a:=a) (i:=i) (by omega) (by omega);have:=R.aX i (by omega);have:=R.bp i (by omega);omega
  ·rw[show a=i+1 by omega];exact bl _
def nf.w1(R:nf x b g SE o h s u m){a:Nat}(U:a<=o):∃r,SE[m a]?=Z ((s a,X),r):=by
 cases a with
 |zero=>exact⟨Y,by rw[R.l0];exact R.ha⟩
 |succ a=>exact⟨_,R.ld a (by omega)⟩
def k2.bU(S:k2 x b g SE)(R:nf x b g SE o h s u m)(E:∀a<o,h a≠f)(cT:∀a<o,M (h a)=s a)(fi:∀d,(∀a<o,h a≠d)->M d=x d):pE N b g f x M o h s:=by
 refine⟨R.l0,R.ds,R.step,λa i U e c=>?_,λa i U e c=>?_,E,cT,fi⟩
 ·have t:=R.lc a U;rw[c]at t;have:=S.mj t (R.lc i e);rcases qS a i with r|r|r
  ·have:=R.up (a:=a+1) (i:=i) (by omega) (by omega);have:=R.bp a U;have:=R.aX i e;omega
  ·exact r
  ·have:=R.up (a:=i+1) (i:=a) (by omega) (by omega);have:=R.bp i e;have:=R.aX a U;omega
 ·let⟨W,t⟩:=R.w1 U;let⟨W,C⟩:=R.w1 e;rw[c]at t;have:=S.mj t C;rcases qS a i with r|r|r
  ·have:=R.up (a:=a+1) (i:=i) (by omega) (by omega);have:=R.bp a (by omega);have:=R.aX a (by omega);omega
  ·exact r
  ·have:=R.up (a:=i+1) (i:=a) (by omega) (by omega);have:=R.bp i (by omega);have:=R.aX i (by omega);omega
end
end bG
namespace bG
variable{aj:Type}[DecidableEq aj]{N:List aj}{b:aj->aj->Prop}{g f:aj}{x M:aj->aj}{D:List aj}
def c1(x:aj->aj)(k:aj)(p:Nat):List aj:=((range<|p+1).map λa=>it x a k)
def k_(x:aj->aj)(g k:aj)(p:Nat):Prop:=(it x (p+1) k=g/\∀o,o<=p->x (it x o k)≠it x o k)
def dG.nb(W:dG N b g f x D){h:aj}(e:x h≠h):h≠f:=λc=>e (c ▸ W.x8)
def mf{k d:aj}{p:Nat}:d∈c1 x k p↔∃a,a<=p/\it x a k=d:=by
 unfold c1;rw[cH];exact⟨λ⟨a,U,c⟩=>⟨a,by rw[gr]at U;omega,c⟩,λ⟨a,U,c⟩=>⟨a,gr.mpr (by omega),c⟩⟩
def dG.A5(W:dG N b g f x D){k:aj}(a:k∈D){p:Nat}(e:k_ x g k p):(c1 x k p).Nodup:=by
 unfold c1;rw[nx,mE];exact GR.imp_of_mem λ{d y} h c r=>W.dist a r λo i=>e.2 o (by rw[gr]at c;omega)
def dG.Bi(W:dG N b g f x D){k d:aj}{p:Nat}(e:k_ x g k p)(c:d∈c1 x k p):d∈N/\d≠g/\d≠f:=by
 let⟨a,U,rfl⟩:=mf.mp c;have H:=e.2 a U;exact⟨(W.fu _ H).1,W.ne H,W.nb H⟩
def dG.apart(W:dG N b g f x D){k H d:aj}(c:k∈D)(e:H∈D){a i:Nat}(t:k_ x g k a)(C:k_ x g H i)(h:d∈c1 x k a)(j:d∈c1 x H i):k=H:=by
 let⟨q,p,l⟩:=mf.mp h;let⟨r,s,m⟩:=mf.mp j;exact W.inj c e (λo n=>t.2 o (by omega)) (λo n=>C.2 o (by omega)) (l.trans m.symm)
def dG.Qh(W:dG N b g f x D){p:aj->Nat}(e:∀k∈D,k_ x g k<|p k):(D.flatMap λk=>c1 x k<|p k).Nodup:=by
 have P:∀h:List aj,h.Nodup->(∀k∈h,k∈D)->(h.flatMap λk=>c1 x k<|p k).Nodup:=λh=>by
  induction h with
  |nil=>intro U U;exact jb
  |cons H h j=>
   intro ah sub;rw[gV]at ah;rw[n5];refine df.mpr ⟨W.A5 (sub H<|.head _)<|e H<|sub H<|.head _,j ah.2 λk a=>sub k<|.tail _ a,λd l y i c=>?_⟩;subst c;let⟨k,a,i⟩:=zA.mp i;exact ah.1 (W.apart (sub H<|.head _) (sub k<|.tail _ a) (e H<|sub H<|.head _) (e k<|sub k<|.tail _ a) l i ▸ a)
 exact P D W.ah λk a=>a
def dG.steps(W:dG N b g f x D){k:aj}{p:Nat}(e:k_ x g k p){a:Nat}(U:a<=p):b (it x (a+1) k) (it x a k):=by
 rw[iF];exact (W.fu _<|e.2 a U).2.2
def dG.dD(W:dG N b g f x D){bs:List aj}(e:∀d,b d f->d∈bs):D.length<=bs.length:=by
 have:=W.ah.length_le_of_subset (l₂:=bs) λd a=>e d (W.last d a).2.1;exact this
def dG.nil:dG N b g f id []:=⟨rfl,rfl,λh e=>absurd rfl e,λh s e=>absurd rfl e,λh e=>absurd rfl e,jb,(λk a=>absurd a ni),λh e=>absurd rfl e⟩
def Rs.of{SM:aj->Bool->Prop}(d:SM g X)(a:∀j I,SM j.1 j.2->u3 x b j I->SM I.1 I.2)(E:¬ SM f ar):Rs N b g f x SM:=
 ⟨d,λh e=>a (h,ar) (x h,X) e<|.inl ⟨rfl,rfl⟩,λh e=>a (h,X) (h,ar) e<|.inr ⟨rfl,rfl,.inl rfl⟩,λh s e c=>a (h,X) (s,ar) e<|.inr ⟨rfl,rfl,.inr c⟩,E⟩
end bG
namespace G
open L2
variable{H:Int}{F D aa:List aG}{f k g y d h:aG}{SU:Type}{p:Nat}{s:ak}{Sy B:a7}{M:aA ak}{x:aG->aG}
abbrev cK:=aG×Bool
variable{Q SN W:List cK}{l I j:cK}
def uc:Bool->ab
 |false=>.str "in"
 |true=>.str "out"
def g9(j:cK):List ab:=([V j.1,uc j.2])
def bK(j:cK):ab:=(.tup (g9 j))
def FG(e:g9 j=g9 I):j=I:=by
 let⟨h,n⟩:=j;let⟨s,q⟩:=I;unfold g9 at e;simp only[zM,and_true]at e;rw[tW];refine⟨DZ e.1,?_⟩;cases n<;>cases q
 ·rfl
 ·exact absurd e.2 ∅
 ·exact absurd e.2 ∅
 ·rfl
def y1(j:cK):ab.keys 7 (g9 j)=X:=by let⟨h,n⟩:=j;cases n<;>rfl
def bI(aa:List aG)(x:aG->aG):List (List ab×ab):=(aa.map λh=>(c9 h,V<|x h))
def xZ(e:h∈aa):d8 (bI aa x) (c9 h)=Z (V<|x h):=by
 induction aa with
 |nil=>cases e
 |cons d u b=>
  unfold d8 bI;rw[cE,jE];by_cases c:d=h
  ·subst c;simp
  ·have:decide (c9 d=c9 h)=ar:=dm λa=>c (oL a);rw[this];exact b ((cq.mp e).resolve_left λa=>c a.symm)
def FQ(aa:List aG)(x:aG->aG)(h:aG):(d8 (bI aa x)<|c9 h).isSome=decide (h∈aa):=by
 by_cases e:h∈aa
 ·rw[xZ e,dw e];rfl
 ·rw[dm e,rC,Bool.eq_false_iff];intro a;let⟨q,b,c⟩:=ph.mp a;let⟨d,f,rfl⟩:=cH.mp b;exact e (oL (hz c) ▸ f)
def kL(x:aG->aG)(d y:aG):aG->aG:=(λa=>if a=d then y else x a)
def LV(e:d∈aa):fv (bI aa x) (c9 d) (V y)=bI aa (kL x d y):=by
 unfold fv;have:=FQ aa x d;rw[rC,dw e]at this;rw[aJ this];unfold bI;rw[gf];refine mm λh W=>?_;show (if c9 h=c9 d then (c9 h,V y) else (c9 h,V<|x h))=(c9 h,V<|kL x d y h);unfold kL;by_cases c:h=d
 ·rw[aJ (by rw[c]),aJ c]
 ·rw[aM λa=>c<|oL a,aM c]
abbrev fN:=List (cK×Option cK)
variable{SE:fN}
def qr:Option cK->ab
 |none=>.aV
 |some j=>bK j
def cG(SE:fN):List (List ab×ab):=(SE.map λq=>(g9 q.1,qr q.2))
abbrev cx(SE:fN):List cK:=SE.map (·.1)
def M_(ah:(cx SE).Nodup){j:cK}{r:Option cK}(e:(j,r)∈SE):d8 (cG SE) (g9 j)=Z (qr r):=by
 induction SE with
 |nil=>cases e
 |cons d u b=>
  unfold d8 cG;rw[cE,jE];replace ah:=gV.mp (show (d.1::cx u).Nodup from ah);by_cases c:d.1=j
  ·have:d=(j,r):=by
    rcases cq.mp e with e|e
    ·exact e.symm
    ·exact absurd (cH.mpr ⟨_,e,rfl⟩) (c ▸ ah.1)
   subst this;simp
  ·have:decide (g9 d.1=g9 j)=ar:=dm λa=>c (FG a);rw[this];exact b ah.2 ((cq.mp e).resolve_left λa=>c (by rw[<-a]))
def FH(SE:fN)(j:cK):((cG SE).any λq=>decide (q.1=g9 j))=decide (j∈cx SE):=by
 rw[r2,ph,hO,cH];constructor
 ·rintro⟨q,b,c⟩;let⟨d,a,rfl⟩:=cH.mp b;exact⟨d,a,FG<|hz c⟩
 ·rintro⟨d,a,rfl⟩;exact⟨_,cH.mpr ⟨d,a,rfl⟩,dw rfl⟩
def OQ(SE:fN)(j:cK):(d8 (cG SE)<|g9 j).isSome=decide (j∈cx SE):=by rw[rC,FH]
def OE{r:Option cK}(e:j∉cx SE):fv (cG SE) (g9 j) (qr r)=cG (SE++[(j,r)]):=by
 unfold fv;rw[aM (by rw[FH,dm e];exact dA)];unfold cG;rw[eF];rfl
def vO(SE:fN)(j:cK):eK (bK j) (.ay<|cG SE)=Z (decide (j∈cx SE)):=by
 unfold bK;rw[wQ,aJ<|y1 j,OQ]
def H6(aa:List aG)(x:aG->aG)(h:aG):eK (V h) (.ay<|bI aa x)=Z (decide (h∈aa)):=by
 show eK (.tup<|c9 h) _=_;rw[wQ,aJ<|nN h,FQ]
def wb(h:aG):i1 [.im (V h)]=Z (aN<|cV h,[.im (V h)]):=rfl
def iv(aa:List aG)(x:aG->aG)(j:cK):List cK:=(if j.2 then (j.1,ar)::((cV j.1).filter λs=>decide (s∈aa)).map λs=>(s,ar) else [(x j.1,X)])
def Kr(h:aG):(cV h).length=4:=rfl
def MK(a:j.1∈aa):oj [.ay (bI aa x),.im<|bK j]=Z (.lst<|(iv aa x j).map bK,[.ay (bI aa x),.im<|bK j]):=by
 let⟨h,n⟩:=j;have b:bR (.ay<|bI aa x) (.im<|V h)=Z (.im<|V<|x h):=by
  show (if ab.keys 7 (c9 h)=X then (d8 (bI aa x)<|c9 h).map ak.im else Y)=_;rw[aJ (nN h),xZ a];rfl
 cases n with
 |false=>
  unfold oj yr;refine dM (B:=[Z (.ay<|bI aa x),Z<|.im<|bK (h,ar),Z<|.im<|V h]) rfl (bL (Sy:=[Z (.ay<|bI aa x),Z<|.im<|bK (h,ar),Z<|.im<|V h]) rfl ?_) rfl;refine la ?_;refine iD (Sy:=[Z (.ay<|bI aa x),Z<|.im<|bK (h,ar),Z<|.im<|V h]) rfl (eU<|QD (bJ (a4<|tA (bJ (a4<|ed b) rfl) rfl (nP rfl) rfl) rfl) rfl (nP rfl) rfl)
 |true=>
  unfold oj yr;refine dM (B:=[Z (.ay<|bI aa x),Z<|.im<|bK (h,X),Z<|.im<|V h]) rfl (bL (Sy:=[Z (.ay<|bI aa x),Z<|.im<|bK (h,X),Z<|.im<|V h]) rfl<|bL (Sy:=[Z (.ay<|bI aa x),Z<|.im<|bK (h,X),Z<|.im<|V h]) rfl<|eU ?_) rfl;have ez:b1 1 [0] (b4<|ai<|bq 1 G.i1<|aq (ag 2) aB) (a0 0) G.Em G.An [Z (.ay<|bI aa x),Z<|.im<|bK (h,X),Z<|.im<|V h]=Z (.lst<|((cV h).filter λs=>decide (s∈aa)).map λs=>bK (s,ar),[Z (.ay<|bI aa x),Z<|.im<|bK (h,X),Z<|.im<|V h]):=by
   refine e2 (w:=(cV h).map V) (n:=Y) (Sy:=[Z (.ay<|bI aa x),Z<|.im<|bK (h,X),Z<|.im<|V h]) rfl (j5 V (λs=>decide (s∈aa)) (λs=>bK (s,ar)) _ [] (λs W=>?_) (by rw[Kr];decide)) rfl;refine⟨[Z (.im<|V s),Z<|.ay<|bI aa x],[Z (.im<|V s),Z<|.ay<|bI aa x],rfl,cz<|ed ?_,λ_=>rfl,λ_=>⟨[Z (.im<|V s),Z<|.ay<|bI aa x],rfl,rfl⟩⟩;show (eK (V s)<|.ay<|bI aa x).map (λu=>ak.im<|.av u)=_;rw[H6];rfl
  refine dc (a4 rfl) (a4 ez) rfl rfl ?_;have c:(((cV h).filter λs=>decide (s∈aa)).map λs=>bK (s,ar)).length<=4:=by
   rw[a9];exact pR _ _
  show (if [bK (h,ar)].length+_<=100000 then Z (ak.lst<|[bK (h,ar)]++_) else Y)=_;rw[aJ (by rw[eD];lia)];unfold iv;rw[aJ rfl,cE,gf];rfl
def Cx{a:Nat}{h b:ak}{o:ab}(d:M B=Z (.im o,B))(c:B[a]?=Z (Z h))(e:gN h (.im o) s=Z b)(f:B.set a (Z b)=Sy):i7 a M gN s B=Z Sy:=by
 unfold i7;rw[c];show (M B).bind _=_;rw[d];show (match B[a]? with|some (Z h)=>(gN h (.im o) s).map λb=>B.set a (Z b)|_=>Y)=_;rw[c];show (gN h (.im o) s).map _=_;rw[e,<-f];rfl
def jr(aa:List aG)(d y:aG):Prop:=(d∈aa/\y∈aa/\y∈cV d)
structure gK(aa:List aG)(x:aG->aG)(g:aG)(SE:fN)(W SN:List cK)(l:cK)(Q:List cK):Prop where
 fD:bG.k2 x (jr aa) g SE
 ha:SE[0]?=Z ((g,X),Y)
 inf:∀j∈cx SE,j.1∈aa
 hg:∀j∈W,j∈cx SE
 e1:∀j∈SN,j∈cx SE
 cl:∀j∈cx SE,j∉W->j∉SN->∀I∈iv aa x j,I∈cx SE\/(j=l/\I∈Q)
def z6(a:j.1∈aa)(e:I∈iv aa x j):bG.u3 x (jr aa) j I:=by
 let⟨h,n⟩:=j;cases n with
 |false=>exact .inl ⟨rfl,cA.mp e⟩
 |true=>
  rcases cq.mp e with rfl|e
  ·exact .inr ⟨rfl,rfl,.inl rfl⟩
  ·let⟨s,hd,rfl⟩:=cH.mp e;let⟨t,C⟩:=gv.mp hd;exact .inr ⟨rfl,rfl,.inr ⟨a,hz C,t⟩⟩
def Hr(e:bG.u3 x (jr aa) j I):I∈iv aa x j:=by
 let⟨h,n⟩:=j;rcases e with ⟨t,C⟩|⟨t,C,a⟩
 ·cases t;rw[C];exact .head _
 ·cases t;let⟨s,q⟩:=I;cases C;rcases a with a|⟨_,b,c⟩
  ·cases a;exact .head _
  ·exact .tail _ (cH.mpr ⟨s,gv.mpr ⟨c,dw b⟩,rfl⟩)
def Kl(b:∀h∈aa,x h∈aa){j I:cK}(a:j.1∈aa)(e:I∈iv aa x j):I.1∈aa:=by
 rcases z6 a e with ⟨_,c⟩|⟨_,_,c|c⟩
 ·rw[c];exact b _ a
 ·rw[c];exact a
 ·exact c.2.1
def gK.len(SM:gK aa x g SE W SN l Q):SE.length<=2*aa.length:=by
 have:=SM.fD.ah.length_le_of_subset (l₂:=(aa.map λh=>(h,ar))++aa.map λh=>(h,X)) λj a=>by
  have e:=SM.inf j a;let⟨h,n⟩:=j;cases n with
  |false=>exact dK _ (cH.mpr ⟨h,e,rfl⟩)
  |true=>exact dQ _ (cH.mpr ⟨h,e,rfl⟩)
 rw[c5,a9,a9,a9]at this;lia
def gK.skip(SM:gK aa x g SE W SN l (I::Q))(e:I∈cx SE):gK aa x g SE W SN l Q:=
 ⟨SM.fD,SM.ha,SM.inf,SM.hg,SM.e1,λj c t C L d=>by
  rcases SM.cl j c t C L d with a|⟨a,b⟩
  ·exact .inl a
  ·rcases cq.mp b with rfl|b
   ·exact .inl e
   ·exact .inr ⟨a,b⟩⟩
def gK.put(v:∀h∈aa,x h∈aa){g:aG}{SE:fN}{W SN:List cK}{l I:cK}{Q:List cK}(SM:gK aa x g SE W SN l (I::Q))(o:l∈cx SE)(s:I∈iv aa x l)(e:I∉cx SE):gK aa x g (SE++[(I,Z l)]) W (SN++[I]) l Q:=by
 have f:cx (SE++[(I,Z l)])=cx SE++[I]:=by unfold cx;rw[eF];rfl
 have u:=SM.inf l o;refine⟨⟨?_,λa j q c=>?_,λa j c=>?_⟩,?_,λj b=>?_,λj b=>?_,λj b=>?_,λj b t C L w=>?_⟩
 ·show (cx<|SE++[(I,Z l)]).Nodup;rw[f];exact df.mpr ⟨SM.fD.ah,ep _ _,λd m y A c=>e (by rw[cA.mp A]at c;rw[<-c];exact m)⟩
 ·rcases jf a SE.length with U|U
  ·rw[jR U]at c;let⟨i,k,r,B,D⟩:=SM.fD.par a j q c;exact⟨i,k,r,by rw[jR ⋯];exact B,D⟩
  ·have E:a=SE.length:=by
    have:=(fX.mp c).1;rw[c5,eD]at this;lia
   subst E;rw[mL (bl _),y0]at c;cases c;let⟨d,m,c⟩:=cH.mp o;let⟨i,k,F⟩:=nt.mp m;refine⟨i,k,d.2,?_,z6 u s⟩;rw[jR k,e4 k,F,<-c]
 ·rcases jf a SE.length with U|U
  ·rw[jR U]at c;exact SM.fD.root a j c
  ·rw[mL U]at c;rcases Nat.eq_zero_or_pos (a-SE.length) with z|z
   ·rw[z]at c;cases c
   ·obtain⟨p,G⟩:∃p,a-SE.length=p+1:=⟨a-SE.length-1,⋯⟩;rw[G]at c;cases c
 ·have:0<SE.length:=(fX.mp SM.ha).1;rw[jR this];exact SM.ha
 ·rw[f]at b;rcases dt.mp b with b|b
  ·exact SM.inf j b
  ·rw[cA.mp b];exact Kl v u s
 ·rw[f];exact dK _ (SM.hg j b)
 ·rw[f];rcases dt.mp b with b|b
  ·exact dK _ (SM.e1 j b)
  ·exact dQ _ b
 ·rw[f]at b ⊢;have H:j∈cx SE:=(dt.mp b).resolve_right λz=>C (dQ _ z);rcases SM.cl j H t (λz=>C<|dK _ z) L w with z|⟨z,n⟩
  ·exact .inl (dK _ z)
  ·rcases cq.mp n with rfl|n
   ·exact .inl (dQ _<|.head _)
   ·exact .inr ⟨z,n⟩
abbrev gP(aa:List aG)(x:aG->aG)(g:aG)(SE:fN)(S0:Option ak)(SN:List cK)(T O:Option ak):a7:=[Z (.ay<|bI aa x),Z<|.im<|V g,Z<|.im<|bK (g,X),Z<|.ay<|cG SE,S0,Z<|.lst<|SN.map bK,T,O]
def LP(t:aa.length<=1000)(i:∀h∈aa,x h∈aa){g:aG}{SE:fN}{W SN:List cK}{l I:cK}{Q:List cK}{S0:Option ak}(SM:gK aa x g SE W SN l (I::Q))(k:l∈cx SE)(m:I∈iv aa x l)(v:SN.length<=SE.length):
  ∃a d,rG (gP aa x g SE S0 SN (Z<|.im<|bK l)<|Z<|.im<|bK I)=Z (.bo,gP aa x g a S0 d (Z<|.im<|bK l)<|Z<|.im<|bK I)/\gK aa x g a W d l Q/\(∀j∈cx SE,j∈cx a)/\a.length+SN.length=SE.length+d.length:=by
 have w:=SM.len;have b:eY (.im<|bK I) (.ay<|cG SE)=Z (.im<|.av<|!decide (I∈cx SE)):=by
  show (eK (bK I)<|.ay<|cG SE).map (λu=>ak.im<|.av<|!u)=_;rw[vO];rfl
 by_cases e:I∈cx SE
 ·rw[dw e]at b;exact⟨SE,SN,e3 (cz<|ed b) rfl,SM.skip e,λj f=>f,rfl⟩
 ·rw[dm e]at b;refine⟨SE++[(I,Z l)],SN++[I],?_,SM.put i k m e,λj f=>?_,by rw[c5,c5,eD,eD];lia⟩
  ·unfold rG;refine iD (cz<|ed b) (bL (Sy:=gP aa x g (SE++[(I,Z l)]) S0 SN (Z<|.im<|bK l) (Z<|.im<|bK I)) (p1 (s:=.im (bK l)) (Sy:=gP aa x g SE S0 SN (Z<|.im<|bK l) (Z<|.im<|bK I)) rfl ?_) (l3 (mF (h:=.lst (SN.map bK)) rfl rfl (bJ rfl rfl) rfl rfl (r1 (by rw[a9];lia)) ?_)))
   ·have c:=OE (r:=Z l) e;have n:=y1 I;have o:(cG SE).length<100000:=by unfold cG;rw[a9];lia
    have p:gN (.ay<|cG SE) (.im<|bK I) (.im<|bK l)=Z (.ay<|cG<|SE++[(I,Z l)]):=by
     show (if ab.keys 7 (g9 I)=X/\(cG SE).length<100000 then Z (ak.ay<|fv (cG SE) (g9 I)<|bK l) else Y)=_;rw[aJ ⟨n,o⟩];exact congrArg (λq=>Z<|ak.ay q) c
    exact Cx rfl rfl p rfl
   ·show _=[Z (.ay<|bI aa x),Z<|.im<|V g,Z<|.im<|bK (g,X),Z<|.ay<|cG<|SE++[(I,Z l)],S0,Z<|.lst<|(SN++[I]).map bK,Z<|.im<|bK l,Z<|.im<|bK I];rw[eF];rfl
  ·show j∈cx (SE++[(I,Z l)]);unfold cx;rw[eF];exact dK _ f
theorem FJ{aa:List aG}{x:aG->aG}(d:aa.length<=1000)(e:∀h∈aa,x h∈aa){g:aG}{W:List cK}{l:cK}{S0:Option ak}:∀(Q:List cK) {SE:fN}{SN:List cK} (O:Option ak),gK aa x g SE W SN l Q->l∈cx SE->(∀I∈Q,I∈iv aa x l)->SN.length<=SE.length->
  ∃a b k,d3 (a0 7) rG (Q.map bK) (gP aa x g SE S0 SN (Z<|.im<|bK l) O)=Z (.bo,gP aa x g a S0 b (Z<|.im<|bK l) k)/\gK aa x g a W b l []/\(∀j∈cx SE,j∈cx a)/\a.length+SN.length=SE.length+b.length
 |[],SE,SN,O,SM,_,_,_=>⟨SE,SN,O,rfl,SM,λj c=>c,rfl⟩
 |I::Q,SE,SN,O,SM,f,i,m=>by
  let⟨t,u,n,o,S6,aX⟩:=LP (S0:=S0) d e SM f (i I<|.head _) m;let⟨L2,p,Tn,q,r,S8,bp⟩:=FJ d e Q (Z<|.im<|bK I) o (S6 l f) (λL s=>i L<|.tail _ s) ⋯;refine⟨L2,p,Tn,?_,r,λj c=>S8 j<|S6 j c,⋯⟩;rw[cE,d3];show (rG<|gP aa x g SE S0 SN (Z<|.im<|bK l)<|Z<|.im<|bK I).bind _=_;rw[n];exact q
theorem A2{aa:List aG}{x:aG->aG}(i:aa.length<=1000)(k:∀h∈aa,x h∈aa){g:aG}{S0:Option ak}:∀(W:List cK) {SE:fN}{SN:List cK}{b:cK} (T O:Option ak),gK aa x g SE W SN b []->SN.length<=SE.length->
  ∃d e p q r,d3 (a0 6) q5 (W.map bK) (gP aa x g SE S0 SN T O)=Z (.bo,gP aa x g d S0 e q r)/\gK aa x g d [] e p []/\d.length+SN.length=SE.length+e.length
 |[],SE,SN,b,T,O,SM,_=>⟨SE,SN,b,T,O,rfl,SM,rfl⟩
 |l::W,SE,SN,b,T,O,SM,s=>by
  have m:=SM.hg l (.head _);have u:gK aa x g SE W SN l (iv aa x l):=⟨SM.fD,SM.ha,SM.inf,λj f=>SM.hg j<|.tail _ f,SM.e1,λj f t C L o=>by
   by_cases c:j=l
   ·subst c;exact .inr ⟨rfl,o⟩
   ·rcases SM.cl j f (λa=>(cq.mp a).elim c t) C L o with a|⟨_,a⟩
    ·exact .inl a
    ·cases a⟩
  let⟨v,y,E,z,A,S6,aX⟩:=FJ (S0:=S0) i k (iv aa x l) O u m (λI B=>B) s;let⟨L2,D,F,H,J,M,N,bp⟩:=A2 i k W (Z<|.im<|bK l) E A ⋯;refine⟨L2,D,F,H,J,?_,N,⋯⟩;rw[cE,d3];show (q5<|gP aa x g SE S0 SN (Z<|.im<|bK l) O).bind _=_;have Q:q5 (gP aa x g SE S0 SN (Z<|.im<|bK l) O)=Z (.bo,gP aa x g v S0 y (Z<|.im<|bK l) E):=by
   unfold q5;refine jy (n:=Y) (w:=(iv aa x l).map bK) (Sy:=gP aa x g SE S0 SN (Z<|.im<|bK l) O) ?_ z rfl;have on:=MK (x:=x) (SM.inf l m);have R:bq 2 G.oj (aq (ag 0)<|aq (ag 6) aB) (gP aa x g SE S0 SN (Z<|.im<|bK l) O)=Z (.lst<|(iv aa x l).map bK,gP aa x g SE S0 SN (Z<|.im<|bK l) O):=ct (P:=[.aQ 0,.aQ 6]) rfl rfl rfl on rfl;unfold b4;rw[iX R];rfl
  rw[Q];exact M
structure yZ(aa:List aG)(x:aG->aG)(g:aG)(SE:fN):Prop where
 fD:bG.k2 x (jr aa) g SE
 ha:SE[0]?=Z ((g,X),Y)
 inf:∀j∈cx SE,j.1∈aa
 cl:∀j∈cx SE,∀I∈iv aa x j,I∈cx SE
def D5(p:aa.length<=1000)(r:∀h∈aa,x h∈aa){g:aG}(s:g∈aa):∃SE,rH [.ay (bI aa x),.im<|V g]=Z (.ay<|cG SE,[.ay (bI aa x),.im<|V g])/\yZ aa x g SE:=by
 have u:bG.k2 x (jr aa) g [((g,X),Y)]:=by
  refine⟨ep _ _,λa j q c=>?_,λa j c=>?_⟩
  ·cases a with
   |zero=>cases c
   |succ a=>cases c
  ·cases a with
   |zero=>cases c;rfl
   |succ a=>cases c
 have w:gK aa x g [((g,X),Y)] [(g,X)] [] (g,X) []:=⟨u,rfl,λj b=>by rw[cA.mp b];exact s,λj b=>b,(λj b=>nomatch b),λj b t=>absurd b t⟩;let⟨SR,y,⟨SE,l,S_,T,O,rfl,SM⟩⟩:=pL (h:=BH) (f:=wx) (λH B=>∃SE W l S_ T O,B=[Z (.ay<|bI aa x),Z<|.im<|V g,Z<|.im<|bK (g,X),Z<|.ay<|cG SE,Z<|.lst<|W.map bK,S_,T,O]/\gK aa x g SE W [] l []/\2*(2*aa.length-SE.length)+W.length<=H) (λB=>∃SE l S_ T O,B=[Z (.ay<|bI aa x),Z<|.im<|V g,Z<|.im<|bK (g,X),Z<|.ay<|cG SE,Z<|.lst [],S_,T,O]/\gK aa x g SE [] [] l [])
  (λH B d2=>by
   let⟨SE,W,l,S_,T,O,rfl,SM,z⟩:=d2;cases W with
   |nil=>exact⟨ar,_,rfl,(λd=>by cases d),λ_=>⟨SE,l,S_,T,O,rfl,SM⟩⟩
   |cons v W=>
    refine⟨X,_,rfl,λ_=>?_,(λd=>by cases d)⟩;let⟨i,k,A,m,o,C,e,aX⟩:=A2 (S0:=Z .dB) p r (v::W) T O SM (gI _);have le:=e.len;rw[hc]at aX;rw[dF]at z;refine⟨.bo,[Z (.ay<|bI aa x),Z<|.im<|V g,Z<|.im<|bK (g,X),Z<|.ay<|cG i,Z<|.lst<|k.map bK,Z .dB,m,o],?_,.inl rfl,2*(2*aa.length-i.length)+k.length,⋯,i,k,A,Z .dB,m,o,rfl,⟨e.fD,e.ha,e.inf,e.e1,(λj b=>nomatch b),λj b t U=>e.cl j b (λd=>nomatch d) t⟩,bl _⟩;unfold wx;refine bL (Sy:=gP aa x g SE (Z<|.lst<|(v::W).map bK) [] T O) rfl (bL (jy (n:=Z (4,.lst<|(v::W).map bK)) (Sy:=gP aa x g SE (Z .dB) [] T O) rfl C rfl) rfl)) 1000000 _ [Z (.ay<|bI aa x),Z<|.im<|V g,Z<|.im<|bK (g,X),Z<|.ay<|cG [((g,X),Y)],Z<|.lst<|[(g,X)].map bK,Y,Y,Y] ⟨_,_,_,Y,Y,Y,rfl,w,bl _⟩ (by rw[eD,eD];lia)
 refine⟨SE,?_,SM.fD,SM.ha,SM.inf,λj b I D=>?_⟩
 ·unfold rH B1;exact dM (B:=[Z (.ay<|bI aa x),Z<|.im<|V g,Z<|.im<|bK (g,X),Z .dB,Z<|.lst [],S_,T,O]) rfl (bL (Sy:=[Z (.ay<|bI aa x),Z<|.im<|V g,Z<|.im<|bK (g,X),Y,Y,Y,Y,Y]) rfl<|bL (Sy:=[Z (.ay<|bI aa x),Z<|.im<|V g,Z<|.im<|bK (g,X),Z<|.ay<|cG [((g,X),Y)],Y,Y,Y,Y]) rfl<|bL (Sy:=[Z (.ay<|bI aa x),Z<|.im<|V g,Z<|.im<|bK (g,X),Z<|.ay<|cG [((g,X),Y)],Z<|.lst<|[(g,X)].map bK,Y,Y,Y]) rfl<|bL y rfl) rfl
 ·rcases SM.cl j b (λd=>nomatch d) (λd=>nomatch d) I D with d|⟨_,d⟩
  ·exact d
  ·cases d
def Iu{H:Nat}{SX:List Nat}{M:bH}{J G:List ak}(a:J.length=p)(c:M (J.map Z++replicate (H-p) Y)=Z (.bo,B))(b:iA SX J B 0=G):c_ p H SX M J=Z (.im .aV,G):=by
 unfold c_;rw[aJ a,c,<-b]
def sf(ah:(cx SE).Nodup){j:cK}{r:Option cK}(e:(j,r)∈SE):bR (.ay<|cG SE) (.im<|bK j)=Z (.im<|qr r):=by
 show (if ab.keys 7 (g9 j)=X then (d8 (cG SE)<|g9 j).map ak.im else Y)=_;rw[aJ (y1 j),M_ ah e];rfl
def Mr(e:h∈aa):bR (.ay<|bI aa x) (.im<|V h)=Z (.im<|V<|x h):=by
 show (if ab.keys 7 (c9 h)=X then (d8 (bI aa x)<|c9 h).map ak.im else Y)=_;rw[aJ (nN h),xZ e];rfl
def nQ(d y:aG):hn (.im<|V d) (.im<|V y)=Z (.im<|.av<|!decide (d=y)):=by
 show (if (ab.bD 8 (V d)&&ab.bD 8 (V y))=X then Z (ak.im<|.av<|!cy (V d) (V y)) else Y)=_;rw[nW,nW,aJ<|show (X&&X)=X from rfl,sJ]
def JB(d y:aG):er (.im<|V d) (.im<|V y)=Z (.im<|.av<|decide (d=y)):=by
 show (if (ab.bD 8 (V d)&&ab.bD 8 (V y))=X then Z (ak.im<|.av<|cy (V d)<|V y) else Y)=_;rw[nW,nW,aJ<|show (X&&X)=X from rfl,sJ]
def EB(e:jr aa d y):jr aa y d:=by
 refine⟨e.2.1,e.1,?_⟩;have:=e.2.2;let⟨g,f⟩:=d;let⟨h,s⟩:=y;unfold cV at this ⊢;simp only[cq,ni,iZ,tW]at this ⊢;lia
def MF{o:Nat}{h s:Nat->aG}{u m:Nat->Nat}(J:aa.length<=1000)(E:∀d∈aa,x d∈aa)(SM:yZ aa x g SE)(R:bG.nf x (jr aa) g SE o h s u m)(F:s o=k):
  ∃M:aG->aG,ry [.ay (bI aa x),.ay<|cG SE,.im<|V k]=Z (.im .aV,[.ay (bI aa M),.ay<|cG SE,.im<|V k])/\(∀d∈aa,M d∈aa)/\(∀a<o,M (h a)=s a)/\∀d,(∀a<o,h a≠d)->M d=x d:=by
 have ah:=SM.fD.ah;have z:∀a i,a<o->i<o->h a=h i->a=i:=λa i U e c=>by
  have t:=R.lc a U;rw[c]at t;have:=SM.fD.mj t (R.lc i e);rcases qS a i with r|r|r
  ·have:=R.up (a:=a+1) (i:=i) ⋯ ⋯;have:=R.bp a U;have:=R.aX i e;lia
  ·exact r
  ·have:=R.up (a:=i+1) (i:=a) ⋯ ⋯;have:=R.bp i e;have:=R.aX a U;lia
 have n:∀{a:Nat}{j:cK}{r:Option cK},SE[a]?=Z (j,r)->(j,r)∈SE:=λc=>j1 c;have A:∀a<o,h a∈aa:=λa U=>SM.inf _ (cH.mpr ⟨_,n<|R.lc a U,rfl⟩);have G:∀a,a<=o->s a∈aa:=λa U=>by
  let⟨r,c⟩:=R.w1 U;exact SM.inf _ (cH.mpr ⟨_,n c,rfl⟩)
 let⟨SR,D,⟨M,Tf,rfl,q,v,w⟩⟩:=pL (h:=AI) (f:=u1) (λH B=>∃(M:aG->aG) (j:cK),B=[Z (.ay<|bI aa M),Z<|.ay<|cG SE,Z<|.im<|V k,Z<|.im<|bK j]/\(∀d∈aa,M d∈aa)/\∃i,(∀a,i<=a->a<o->M (h a)=s a)/\(∀d,(∀a,i<=a->a<o->h a≠d)->M d=x d)/\((i<=o/\H=2*i/\j=(s i,X))\/(∃p,i=p+1/\p<o/\H=2*p+1/\j=(h p,ar))))
  (λB=>∃(M:aG->aG) (Tf:Option ak),B=[Z (.ay<|bI aa M),Z<|.ay<|cG SE,Z<|.im<|V k,Tf]/\(∀d∈aa,M d∈aa)/\(∀a<o,M (h a)=s a)/\∀d,(∀a<o,h a≠d)->M d=x d)
  (λH B d2=>by
   obtain⟨M,j,rfl,q,i,v,w,⟨e,rfl,rfl⟩|⟨p,rfl,y,rfl,rfl⟩⟩:=d2
   ·cases i with
    |zero=>
     have c:=sf ah (n R.ha);rw[R.l0];exact⟨ar,_,cz<|dc (a4<|ed c) rfl rfl rfl rfl,(λb=>by cases b),λ_=>⟨M,_,rfl,q,λa U=>v a (gI _) U,λd l=>w d λa W U=>l a U⟩⟩
    |succ p=>
     have c:=sf ah (n<|R.ld p e);refine⟨X,_,cz<|dc (a4<|ed c) rfl rfl rfl rfl,λ_=>?_,(λb=>by cases b)⟩;refine⟨.bo,[Z (.ay<|bI aa M),Z<|.ay<|cG SE,Z<|.im<|V k,Z<|.im<|bK (h p,ar)],?_,.inl rfl,2*p+1,⋯,M,_,rfl,q,p+1,v,w,.inr ⟨p,rfl,e,rfl,rfl⟩⟩;unfold u1;exact bL (e3 (Sy:=[Z (.ay<|bI aa M),Z<|.ay<|cG SE,Z<|.im<|V k,Z<|.im<|bK (s<|p+1,X)]) rfl rfl) (kS (ed c) (fH rfl) rfl)
   ·have c:=sf ah (n<|R.lc p y);refine⟨X,_,cz<|dc (a4<|ed c) rfl rfl rfl rfl,λ_=>?_,(λb=>by cases b)⟩;refine⟨.bo,[Z (.ay<|bI aa<|kL M (h p)<|s p),Z<|.ay<|cG SE,Z<|.im<|V k,Z<|.im<|bK (s p,X)],?_,.inl rfl,2*p,⋯,kL M (h p)<|s p,_,rfl,λd l=>?_,p,λa t C=>?_,λd l=>?_,.inl ⟨⋯,rfl,rfl⟩⟩
    ·unfold u1;have I:gN (.ay<|bI aa M) (.im<|V<|h p) (.im<|V<|s p)=Z (.ay<|bI aa<|kL M (h p)<|s p):=by
      show (if ab.keys 7 (c9<|h p)=X/\(bI aa M).length<100000 then Z (ak.ay<|fv (bI aa M) (c9<|h p)<|V<|s p) else Y)=_;rw[aJ ⟨nN _,by unfold bI;rw[a9];lia⟩,LV<|A p y]
     refine bL (Sy:=[Z (.ay<|bI aa<|kL M (h p)<|s p),Z<|.ay<|cG SE,Z<|.im<|V k,Z<|.im<|bK (h p,ar)]) (iD (Sy:=[Z (.ay<|bI aa M),Z<|.ay<|cG SE,Z<|.im<|V k,Z<|.im<|bK (h p,ar)]) rfl<|p1 (dc (a4<|ed c) rfl rfl rfl<|show bR (.im<|qr<|Z (s p,X)) (aI 0)=Z (.im<|V<|s p) from rfl)<|Cx (o:=V (h p)) rfl rfl I rfl) (kS (ed c) (fH rfl) rfl)
    ·unfold kL;split
     ·exact G p ⋯
     ·exact q d l
    ·unfold kL;by_cases b:a=p
     ·rw[b,aJ rfl]
     ·rw[aM λr=>b<|z a p C y r];exact v a ⋯ C
    ·unfold kL;rw[aM λr=>l p (bl _) y r.symm];exact w d λa t C=>l a ⋯ C) 1000000 (2*o) [Z (.ay<|bI aa x),Z<|.ay<|cG SE,Z<|.im<|V k,Z<|.im<|bK (s o,X)] ⟨x,_,rfl,E,o,λa t C=>⋯,λd W=>rfl,.inl ⟨bl _,rfl,rfl⟩⟩ (by
   have:o<=aa.length:=by
    refine bG.tN (M:=h) A λa i t C c=>?_;have:=z a i ⋯ C c;lia
   lia)
 refine⟨M,?_,q,v,w⟩;unfold ry Bk;refine Iu (B:=[Z (.ay<|bI aa M),Z<|.ay<|cG SE,Z<|.im<|V k,Tf]) rfl (bL (Sy:=[Z (.ay<|bI aa x),Z<|.ay<|cG SE,Z<|.im<|V k,Z<|.im<|bK (k,X)]) rfl ?_) rfl;rw[<-F]at D ⊢;exact D
theorem AZ{aa:List aG}{x:aG->aG}(a:∀d∈aa,x d∈aa){k:aG}(b:k∈aa):∀p,bG.it x p k∈aa
 |0=>b
 |p+1=>by rw[bG.iF];exact a _ (AZ a b p)
def NY(o:p<10000)(j:∀d∈aa,x d∈aa)(l:k∈aa)(t:bG.it x (p+1) k=g)(C:∀a,a<=p->bG.it x a k≠g):
  pw [.ay (bI aa x),.im<|V g,.im<|V k]=Z (aN<|bG.c1 x k p++[g],[.ay (bI aa x),.im<|V g,.im<|V k]):=by
 have rs:∀H,(range<|H+1+1).map (λa=>bG.it x a k)=(range<|H+1).map (λa=>bG.it x a k)++[bG.it x (H+1) k]:=λH=>by rw[yt,eF];rfl
 have fin:∀H,dH (((range<|H+1).map<|λa=>bG.it x a k).map V) (-1)=Z (V<|bG.it x H k):=λH=>sv (by
  rw[yt,eF,eF];simp)
 let⟨SR,m,rfl⟩:=pL (h:=y7) (f:=FA) (λH B=>∃i,i<=p+1/\H=p+1-i/\B=[Z (.ay<|bI aa x),Z<|.im<|V g,Z<|.im<|V k,Z<|aN<|(range<|i+1).map λa=>bG.it x a k])
  (λB=>B=[Z (.ay<|bI aa x),Z<|.im<|V g,Z<|.im<|V k,Z<|aN<|(range<|p+1+1).map λa=>bG.it x a k])
  (λH B d2=>by
   let⟨i,q,rfl,rfl⟩:=d2;have n:=nQ (bG.it x i k) g;have e:bR (aN<|(range<|i+1).map λa=>bG.it x a k) (aI<|-1)=Z (.im<|V<|bG.it x i k):=by
    show (dH (((range<|i+1).map<|λa=>bG.it x a k).map V)<|-1).map ak.im=_;rw[fin];rfl
   have b:y7 [Z (.ay<|bI aa x),Z<|.im<|V g,Z<|.im<|V k,Z<|aN<|(range<|i+1).map λa=>bG.it x a k]=Z (!decide (bG.it x i k=g),[Z (.ay<|bI aa x),Z<|.im<|V g,Z<|.im<|V k,Z<|aN<|(range<|i+1).map λa=>bG.it x a k]):=cz (dc (a4<|dc rfl (a4 rfl) rfl rfl e) rfl rfl rfl n);rcases jf i (p+1) with r|s
   ·rw[dm (C i ⋯)]at b;refine⟨X,_,b,λ_=>?_,(λc=>by cases c)⟩;refine⟨.bo,_,l3 (mF (h:=aN ((range<|i+1).map λa=>bG.it x a k)) rfl rfl (bJ (a4<|dc rfl (a4<|dc rfl (a4 rfl) rfl rfl e) rfl rfl<|Mr<|AZ j l i) rfl) rfl rfl (r1 (by rw[a9,a9,iP];lia)) rfl),.inl rfl,p+1-(i+1),⋯,i+1,⋯,rfl,?_⟩;rw[rs];show [_,_,_,Z<|ak.lst<|((range<|i+1).map λa=>bG.it x a k).map V++[V (x<|bG.it x i k)]]=[_,_,_,Z<|ak.lst<|(((range<|i+1).map λa=>bG.it x a k)++[bG.it x (i+1) k]).map V];rw[eF,bG.iF];rfl
   ·have:i=p+1:=⋯
    subst this;rw[dw t]at b;exact⟨ar,_,b,(λc=>by cases c),λ_=>rfl⟩) 1000000 (p+1) [Z (.ay<|bI aa x),Z<|.im<|V g,Z<|.im<|V k,Z<|aN [k]] ⟨0,gI _,rfl,rfl⟩ ⋯
 unfold pw z1;refine dM (B:=[Z (.ay<|bI aa x),Z<|.im<|V g,Z<|.im<|V k,Z .dB]) rfl (bL (Sy:=[Z (.ay<|bI aa x),Z<|.im<|V g,Z<|.im<|V k,Z<|aN [k]]) rfl<|bL m ?_) rfl;rw[rs,t];rfl
theorem EL:∀(SJ a:List (List ab×ab)),((a++SJ).map (·.1)).Nodup->SJ.foldl (λg q=>fv g q.1 q.2) a=a++SJ
 |[],a,_=>(cB a).symm
 |q::SJ,a,e=>by
  rw[jj];have c:fv a q.1 q.2=a++[q]:=by
   unfold fv;rw[aM];intro b;let⟨d,f,h⟩:=ph.mp b;rw[eF]at e;exact (df.mp e).2.2 d.1 (cH.mpr ⟨d,f,rfl⟩) q.1 (.head _) (hz h)
  rw[c,EL SJ (a++[q]) (by rw[bC];exact e),bC];rfl
def PQ{SJ:List (List ab×ab)}(e:(SJ.map (·.1)).Nodup):hh SJ=SJ:=EL SJ [] e
def mc{Tx:Type}{M:SU->Tx}{k:List SU}(inj:∀d∈k,∀y∈k,M d=M y->d=y)(ah:k.Nodup):(k.map M).Nodup:=by
 rw[nx,mE];exact ah.imp_of_mem λ{d y} a b e c=>e (inj d a y b c)
def Ki(aa:List aG):lG (aa.map λh=>.tup [V h,V h])=Z (bI aa id):=by
 induction aa with
 |nil=>rfl
 |cons h u a=>
  rw[cE];show (lG<|u.map λh=>.tup [V h,V h]).map (λj=>(c9 h,V h)::j)=_;rw[a];rfl
def Jh(ah:aa.Nodup)(a:aa.length<=1000):ob [.lst (aa.map λh=>.tup [V h,V h])]=Z (.ay<|bI aa id):=by
 have t:((bI aa id).all λq=>ab.keys 7 q.1)=X:=by
  rw[kz];intro q b;let⟨d,f,rfl⟩:=cH.mp b;exact nN d
 have C:(bI aa id).length<=1000:=by unfold bI;rw[a9];exact a
 have e:hh (bI aa id)=bI aa id:=PQ (by
  unfold bI;rw[gf];exact mc (λd W y W c=>oL c) ah)
 show (lG<|aa.map λh=>.tup [V h,V h]).bind _=_;rw[Ki];show (if ((bI aa id).all λq=>ab.keys 7 q.1)=X/\(bI aa id).length<=1000 then Z (ak.ay<|hh<|bI aa id) else Y)=_;rw[aJ ⟨t,C⟩,e]
abbrev cR:=List aG
variable{S Ta:List cR}
def aP(l:cR):ab:=(.tup (l.map V))
def rP:ab->cR
 |.tup k=>k.map nk
 |_=>[]
def uH(l:cR):rP (aP l)=l:=by
 show (l.map V).map nk=l;rw[gf];exact (mm λh W=>xT h).trans (ri l)
def Hz{L v:cR}(e:aP L=aP v):L=v:=by rw[<-uH L,e,uH]
def K1{k:List ab}{SH:List cR}(e:k.Perm (SH.map aP)):∃a:List cR,a.Perm SH/\k=a.map aP:=by
 have c:k=(k.map rP).map aP:=by
  rw[gf];refine (ri k).symm.trans (mm λd b=>?_);let⟨l,W,rfl⟩:=cH.mp (e.mem_iff.mp b);show aP l=aP (rP<|aP l);rw[uH]
 refine⟨k.map rP,?_,c⟩;have:=e.map rP;rw[gf]at this;exact this.trans (wO<|(mm λl W=>uH l).trans<|ri SH)
theorem wU:∀SJ:cR,ab.du 5 (SJ.map V)=X
 |[]=>rfl
 |h::SJ=>by rw[cE,ab.du,wU SJ];rfl
theorem qj:∀L v:cR,fw 5 (L.map V) (v.map V)=X
 |[],[]=>rfl
 |[],f::v=>wU (f::v)
 |g::L,[]=>wU (g::L)
 |g::L,f::v=>by
  rw[cE,cE,fw,qj L v];rfl
def LF(ah:Ta.Nodup)(b:Ta.length<=1000)(ne:∀l∈Ta,l≠[]):nD (Ta.map aP):=by
 refine⟨⟨by rw[a9];exact b,λd a y e=>?_,mc (λd W y W c=>Hz c) ah⟩,.inr λd a=>?_⟩
 ·let⟨L,W,rfl⟩:=cH.mp a;let⟨v,W,rfl⟩:=cH.mp e;exact qj L v
 ·let⟨L,f,rfl⟩:=cH.mp a;cases L with
  |nil=>exact absurd rfl (ne _ f)
  |cons h u=>rfl
def lE(Ta:List cR):Prop:=(Ta.Pairwise λg f=>bx (aP g) (aP f)=X)
def DE(ah:Ta.Nodup)(a:Ta.length<=1000)(ne:∀l∈Ta,l≠[]):∃S:List cR,i9 (Ta.map aP)=Z (.lst<|S.map aP)/\S.Perm Ta/\lE S:=by
 have n:=LF ah a ne;let⟨S,t,C⟩:=K1 (jJ<|Ta.map aP);refine⟨S,?_,t,?_⟩
 ·unfold i9;rw[aJ (sH.mpr n),C]
 ·have:=tK n.ord.ah n.ord.kd;rw[C]at this;exact mE.mp this
open Classical in
def d6(x:aG->aG)(g k:aG):Nat:=(if e:∃p,bG.k_ x g k p then e.choose else 0)
def fF(x:aG->aG)(g f k:aG):cR:=(g::((bG.c1 x k<|d6 x g k).reverse++[f]))
def fJ(SE:fN)(h:aG):Bool:=(decide ((h,ar)∈cx SE) && !decide ((h,X)∈cx SE))
structure d4(aa:List aG)(g f:aG)(x:aG->aG)(D:List aG)(SE:fN):Prop where
 w:bG.dG aa (jr aa) g f x D
 hf:∀d∈aa,x d∈aa
 s:yZ aa x g SE
def d4.ic(SN:d4 aa g f x D SE){k:aG}(a:k∈D):bG.k_ x g k (d6 x g k):=by
 have e:∃p,bG.k_ x g k p:=SN.w.comes a;unfold d6;rw[dif_pos e];exact e.choose_spec
def d4.dD(SN:d4 aa g f x D SE):D.length<=4:=SN.w.dD (bs:=cV f) λd e=>(EB e).2.2
def d4.xh(SN:d4 aa g f x D SE){k:aG}(b:k∈D):d6 x g k+1<=aa.length:=by
 have e:=SN.ic b;exact bG.tN (M:=λa=>bG.it x a k) (λa U=>(SN.w.fu _ (e.2 a ⋯)).1) λa i t C=>SN.w.dist b t λo c=>e.2 o ⋯
def d4.Q8(SN:d4 aa g f x D SE):(D.map<|fF x g f).Nodup:=by
 refine mc (λd a y b c=>?_) SN.w.ah;unfold fF at c;have h:=List.append_inj_left' (List.cons.inj c).2 rfl;have i:bG.c1 x d (d6 x g d)=bG.c1 x y (d6 x g y):=List.reverse_inj.mp h;have e:d∈bG.c1 x d (d6 x g d):=bG.mf.mpr ⟨0,gI _,rfl⟩;exact SN.w.apart a b (SN.ic a) (SN.ic b) e (i ▸ e)
def d4.next(H:aa.length<=1000)(C:g≠f)(E:f∉cV g)(SN:d4 aa g f x D SE)(e:(f,ar)∈cx SE):
  ∃(k:aG) (M:aG->aG),((f,ar),Z (k,X))∈SE/\ry [.ay (bI aa x),.ay<|cG SE,.im<|V k]=Z (.im .aV,[.ay (bI aa M),.ay<|cG SE,.im<|V k])/\bG.dG aa (jr aa) g f M (D++[k])/\∀d∈aa,M d∈aa:=by
 let⟨⟨j,r⟩,F,c⟩:=cH.mp e;cases c;let⟨a,U,I⟩:=nt.mp F;have B:SE[a]?=Z ((f,ar),r):=by rw[e4 U,I]
 cases r with
 |none=>exact absurd (SN.s.fD.root a _ B) ↥0
 |some q=>
  let⟨i,am,an,L,N⟩:=SN.s.fD.par a _ _ B;let⟨k,n⟩:=q;rcases N with ⟨_,c⟩|⟨O,_,p⟩
  ·exact absurd c ↥0
  ·cases O;let⟨o,h,s,u,m,R,v,ap⟩:=SN.s.fD.path i L;have G:∀z<o,h z≠f:=λz Sq b=>by
    have t:=R.lc z Sq;rw[b]at t;have:=SN.s.fD.mj t B;have:=R.bp z Sq;have:=R.up (a:=z+1) (i:=o) ⋯ (bl _);lia
   have P:jr aa k f:=by
    rcases p with p|p
    ·exfalso;have p:f=k:=p;cases o with
     |zero=>exact C (R.l0.symm.trans<|v.trans p.symm)
     |succ o=>
      have A:=R.ds o (pY _);rw[v,<-p]at A;have Q:=G o (pY _);have:=SN.w.on (h o) (λb=>Q (by rw[<-b,<-A])) (by rw[<-A];exact λb=>C b.symm);rw[<-A]at this;exact this SN.w.x8
    ·exact p
   let⟨M,c,S,T,al⟩:=MF H SN.hf SN.s R v;refine⟨k,M,F,c,?_,S⟩;have:=bG.lay SN.w (SN.s.fD.bU R G T al) (λd y b=>⟨b.1,b.2.1⟩) (by rw[v];exact P) λb=>E b.2.2;rw[v]at this;exact this
def tw(f:aG)(n:Bool){B:a7}{a:Nat}(e:B[a]?=Z (Z<|.im<|V f)):dY (aq (ag a)<|aq (ai<|aE<|uc n) aB) B=Z (.im<|bK (f,n),B):=by
 refine tA (P:=[.aQ a,.cf<|.im<|uc n]) (J:=[.im (V f),.im<|uc n]) (Sy:=B) ?_ ?_ (nP rfl) rfl
 ·simp -implicitDefEqProofs [e]
 ·simp -implicitDefEqProofs [e]
abbrev fZ(aa:List aG)(g f:aG)(x:aG->aG)(D:List aG)(SE:fN)(T O:Option ak):a7:=[Z (aC aa),Z<|.im<|V g,Z<|.im<|V f,Z<|.ay<|bI aa x,Z<|aN D,Z<|.ay<|cG SE,T,O]
def D4(h:aG)(n:Bool)(SE:fN):eG (.im<|bK (h,n)) (.ay<|cG SE)=Z (.im<|.av<|decide ((h,n)∈cx SE)):=by
 show (eK (bK (h,n))<|.ay<|cG SE).map (λu=>ak.im<|.av u)=_;rw[vO];rfl
def JN(h:aG)(n:Bool)(SE:fN):eY (.im<|bK (h,n)) (.ay<|cG SE)=Z (.im<|.av<|!decide ((h,n)∈cx SE)):=by
 show (eK (bK (h,n))<|.ay<|cG SE).map (λu=>ak.im<|.av<|!u)=_;rw[vO];rfl
def RD(b:aa.length<=1000)(i:g∈aa)(l:g≠f)(E:f∉cV g)(SN:d4 aa g f x D SE)(e:(f,ar)∈cx SE):
  ∃(k:aG) (M:aG->aG) (a:fN),sj (fZ aa g f x D SE Y Y)=Z (.bo,fZ aa g f M (D++[k]) a Y Y)/\d4 aa g f M (D++[k]) a:=by
 let⟨k,M,m,n,W,c⟩:=SN.next b l E e;let⟨a,o,SM⟩:=D5 b c i;refine⟨k,M,a,?_,W,c,SM⟩;have t:=SN.dD;unfold sj;have p:dY (aq (ag 2)<|aq (ai<|aE<|.str "in") aB) (fZ aa g f x D SE Y Y)=Z (.im<|bK (f,ar),fZ aa g f x D SE Y Y):=tw f ar rfl;have q:aF bR (ai<|aF bR (ag 5)<|ai<|dY<|aq (ag 2)<|aq (ai<|aE<|.str "in") aB) (ai<|aE<|.int 0) (fZ aa g f x D SE Y Y)=Z (.im<|V k,fZ aa g f x D SE Y Y):=
  dc (a4<|dc rfl (a4 p) rfl rfl<|sf SN.s.fD.ah m) rfl rfl rfl rfl;have d:(D.map V)++[V k]=(D++[k]).map V:=by rw[eF];rfl
 refine bL (Sy:=fZ aa g f x (D++[k]) SE Y Y) (l3 (mF (h:=aN D) rfl rfl (bJ (a4 q) rfl) rfl rfl (r1 (by rw[a9];lia)) (by rw[d];rfl))) ?_;have r:bR (aN<|D++[k]) (aI<|-1)=Z (.im<|V k):=by
  show (dH ((D++[k]).map V)<|-1).map ak.im=_;rw[<-d,sv<|sV];rfl
 refine bL (Sy:=fZ aa g f M (D++[k]) SE Y Y) (l3<|ct (P:=[.aQ 3,.aQ 5,.cf<|.im<|V k]) (bJ rfl<|bJ rfl<|bJ (a4<|dc rfl (a4 rfl) rfl rfl r) rfl) rfl rfl n rfl) ?_;exact jm (ct (P:=[.aQ 3,.aQ 1]) rfl rfl rfl o rfl) (fH rfl) rfl
def Oo(h:aa.length<=1000)(SN:d4 aa g f x D SE){k:aG}(b:k∈D):vx [Z (.im<|V k),Z<|.im<|V f,Z<|.ay<|bI aa x,Z<|.im<|V g]=Z (.im<|aP<|fF x g f k,[Z (.im<|V k),Z<|.im<|V f,Z<|.ay<|bI aa x,Z<|.im<|V g]):=by
 have N:=SN.ic b;have i:=SN.xh b;have c:=NY (aa:=aa) (x:=x) (g:=g) (k:=k) (p:=d6 x g k) ⋯ SN.hf (SN.w.fu k<|N.2 0<|gI _).1 N.1 λa U=>SN.w.ne (N.2 a U);have d:(bG.c1 x k<|d6 x g k).length=d6 x g k+1:=by unfold bG.c1;rw[a9,iP]
 have e:bq 3 G.pw (aq (ag 2)<|aq (ag 3)<|aq (ag 0) aB) [Z (.im<|V k),Z<|.im<|V f,Z<|.ay<|bI aa x,Z<|.im<|V g]=Z (aN<|bG.c1 x k (d6 x g k)++[g],[Z (.im<|V k),Z<|.im<|V f,Z<|.ay<|bI aa x,Z<|.im<|V g]):=ct (P:=[.aQ 2,.aQ 3,.aQ 0]) rfl rfl rfl c rfl;have ad:aF e0 (ai<|eV<|aq (ag 1) aB) (ai<|bq 3 G.pw<|aq (ag 2)<|aq (ag 3)<|aq (ag 0) aB) [Z (.im<|V k),Z<|.im<|V f,Z<|.ay<|bI aa x,Z<|.im<|V g]=Z (aN (f::(bG.c1 x k (d6 x g k)++[g])),[Z (.im<|V k),Z<|.im<|V f,Z<|.ay<|bI aa x,Z<|.im<|V g]):=by
  refine dc (a4 rfl) (a4 e) rfl rfl ?_;show (if [V f].length+((bG.c1 x k (d6 x g k)++[g]).map V).length<=100000 then Z (ak.lst<|[V f]++(bG.c1 x k (d6 x g k)++[g]).map V) else Y)=_;rw[aJ (by rw[a9,c5,d,eD,eD];lia)];rfl
 unfold vx wz;rw[bJ (a4 ad) rfl];show Z (ak.im<|.tup ((f::(bG.c1 x k (d6 x g k)++[g])).map V).reverse,_)=_;rw[<-List.map_reverse];unfold aP fF;rw[yS,EW];rfl
def Pa(ah:aa.Nodup)(a:aa.length<=1000)(j:g∈aa)(Q:f∈aa)(m:g≠f)(E:f∉cV g):
  ∃(x:aG->aG) (D:List aG) (SE:fN) (S:List cR),nH [aC aa,.im<|V g,.im<|V f]=Z (.im<|.tup [.tup ((aa.filter<|fJ SE).map V),.tup<|S.map aP],[aC aa,.im<|V g,.im<|V f])/\d4 aa g f x D SE/\(f,ar)∉cx SE/\S.Perm (D.map<|fF x g f)/\lE S:=by
 let⟨b,s,t⟩:=D5 (x:=id) a (λh e=>e) j;have v:d4 aa g f id [] b:=⟨bG.dG.nil,λh e=>e,t⟩;have y:b1 1 [] (b4<|ag 0) (a0 0) cP G.G0 [Z (aC aa),Z<|.im<|V g,Z<|.im<|V f,Y,Y,Y,Y,Y]=Z (.lst<|aa.map λh=>.tup [V h,V h],[Z (aC aa),Z<|.im<|V g,Z<|.im<|V f,Y,Y,Y,Y,Y]):=by
  refine e2 (w:=aa.map V) (n:=Y) (Sy:=[Z (aC aa),Z<|.im<|V g,Z<|.im<|V f,Y,Y,Y,Y,Y]) rfl (fA V (λh=>.tup [V h,V h]) _ (λh W=>?_) ⋯) rfl;exact⟨[Z (.im<|V h)],_,[Z (.im<|V h)],rfl,rfl,rfl,rfl⟩
 let⟨SR,z,⟨x,D,SE,rfl,SN,A⟩⟩:=pL (h:=xS) (f:=sj) (λH B=>∃x D SE,B=fZ aa g f x D SE Y Y/\d4 aa g f x D SE/\4-D.length<=H) (λB=>∃x D SE,B=fZ aa g f x D SE Y Y/\d4 aa g f x D SE/\(f,ar)∉cx SE)
  (λH B d2=>by
   let⟨x,D,SE,rfl,SN,o⟩:=d2;have d:xS (fZ aa g f x D SE Y Y)=Z (decide ((f,ar)∈cx SE),fZ aa g f x D SE Y Y):=cz (dc (a4<|tw f ar rfl) rfl rfl rfl<|D4 f ar SE);by_cases e:(f,ar)∈cx SE
   ·rw[dw e]at d;let⟨k,M,C,c,p⟩:=RD a j m E SN e;have:=p.dD;rw[c5,eD]at this;exact⟨X,_,d,λ_=>⟨.bo,_,c,.inl rfl,4-(D++[k]).length,by rw[c5,eD];lia,M,_,C,rfl,p,bl _⟩,(λi=>by cases i)⟩
   ·rw[dm e]at d;exact⟨ar,_,d,(λi=>by cases i),λ_=>⟨x,D,SE,rfl,SN,e⟩⟩) 1000000 4 (fZ aa g f id [] b Y Y) ⟨id,[],b,rfl,v,Nat.sub_le _ _⟩ ⋯
 have dD:=SN.dD;have R:(D.map<|fF x g f).length=D.length:=a9 _;let⟨S,q,S4,up⟩:=DE SN.Q8 ⋯ (λl F=>by
  let⟨k,W,rfl⟩:=cH.mp F;exact tk _ _)
 refine⟨x,D,SE,S,?_,SN,A,S4,up⟩;have I:b1 1 [5] (b4<|ag 0) (a0 0) G.vU G.z0 (fZ aa g f x D SE Y Y)=Z (aN<|aa.filter<|fJ SE,fZ aa g f x D SE Y Y):=by
  refine e2 (w:=aa.map V) (n:=Y) (Sy:=fZ aa g f x D SE Y Y) rfl (j5 V (fJ SE) V _ [] (λh W=>?_) (by rw[hc];lia)) rfl;refine⟨[Z (.im<|V h),Z<|.ay<|cG SE],[Z (.im<|V h),Z<|.ay<|cG SE],rfl,?_,λ_=>rfl,λ_=>⟨[Z (.im<|V h),Z<|.ay<|cG SE],rfl,rfl⟩⟩;have S6:a8 (aF eG (ai<|dY<|aq (ag 0)<|aq (ai<|aE<|.str "in") aB)<|ag 1) [Z (.im<|V h),Z<|.ay<|cG SE]=Z (decide ((h,ar)∈cx SE),[Z (.im<|V h),Z<|.ay<|cG SE]):=cz (dc (a4<|tw h ar rfl) rfl rfl rfl<|D4 h ar SE);have S8:a8 (aF eY (ai<|dY<|aq (ag 0)<|aq (ai<|aE<|.str "out") aB)<|ag 1) [Z (.im<|V h),Z<|.ay<|cG SE]=Z (!decide ((h,X)∈cx SE),[Z (.im<|V h),Z<|.ay<|cG SE]):=cz (dc (a4<|tw h X rfl) rfl rfl rfl<|JN h X SE);unfold vU fJ;cases r:decide ((h,ar)∈cx SE) with
  |false=>rw[r]at S6;exact o_ S6
  |true=>rw[r]at S6;exact gG S6 (S8.trans (by rw[xI]))
 have J:b1 1 [2,3,1] (b4<|ag 4) (a0 0) cP G.vx (fZ aa g f x D SE (Z<|aN<|aa.filter<|fJ SE) Y)=Z (.lst<|D.map λk=>aP<|fF x g f k,fZ aa g f x D SE (Z<|aN<|aa.filter<|fJ SE) Y):=by
  refine e2 (w:=D.map V) (n:=Z (4,aN D)) (Sy:=[Z (aC aa),Z<|.im<|V g,Z<|.im<|V f,Z<|.ay<|bI aa x,Z .dB,Z<|.ay<|cG SE,Z<|aN<|aa.filter<|fJ SE,Y]) rfl (fA V (λk=>aP<|fF x g f k) _ (λk o=>?_) ⋯) rfl;exact⟨[Z (.im<|V k),Z<|.im<|V f,Z<|.ay<|bI aa x,Z<|.im<|V g],_,[Z (.im<|V k),Z<|.im<|V f,Z<|.ay<|bI aa x,Z<|.im<|V g],rfl,rfl,Oo a SN o,rfl⟩
 have L:hD [.lst (D.map λk=>aP<|fF x g f k)]=Z (.lst<|S.map aP):=by
  rw[gf]at q;cases D with
  |nil=>
   have:S=[]:=DN.mp S4;rw[this];rfl
  |cons k u=>exact q
 have N:a8 (aF er (ag 1)<|ag 2) [Z (aC aa),Z<|.im<|V g,Z<|.im<|V f,Y,Y,Y,Y,Y]=Z (ar,[Z (aC aa),Z<|.im<|V g,Z<|.im<|V f,Y,Y,Y,Y,Y]):=cz (ed ((JB g f).trans (by rw[dm m])));have O:a8 (aF eG (ag 2)<|ai<|bq 1 G.i1<|aq (ag 1) aB) [Z (aC aa),Z<|.im<|V g,Z<|.im<|V f,Y,Y,Y,Y,Y]=Z (ar,[Z (aC aa),Z<|.im<|V g,Z<|.im<|V f,Y,Y,Y,Y,Y]):=by
  refine cz (dc rfl (a4<|ct (P:=[.aQ 1]) rfl rfl rfl (wb g) rfl) rfl rfl ?_);show (eK (V f)<|aN<|cV g).map (λu=>ak.im<|.av u)=_;rw[sY,dm E];rfl
 unfold nH FK;refine dM (B:=fZ aa g f x D SE (Z<|aN<|aa.filter<|fJ SE) (Z<|.lst<|D.map λk=>aP<|fF x g f k)) rfl ?_ rfl;refine bL (e3 (fl N O) rfl) (bL (Sy:=[Z (aC aa),Z<|.im<|V g,Z<|.im<|V f,Z<|.ay<|bI aa id,Y,Y,Y,Y]) (kS (cW (bJ (a4 y) rfl) rfl<|Jh ah a) (fH rfl) rfl) ?_);refine bL (Sy:=[Z (aC aa),Z<|.im<|V g,Z<|.im<|V f,Z<|.ay<|bI aa id,Z<|aN [],Y,Y,Y]) rfl (bL (Sy:=fZ aa g f id [] b Y Y) (jm (ct (P:=[.aQ 3,.aQ 1]) rfl rfl rfl s rfl) (fH rfl) rfl)<|bL z ?_);refine bL (kS I (fH rfl) rfl) (bL (kS J (fH rfl) rfl)<|eU<|tA (bJ (a4<|cW (bJ rfl rfl) rfl rfl)<|bJ (a4<|cW (bJ (a4<|cW (bJ rfl rfl) rfl L) rfl) rfl rfl) rfl) rfl (nP rfl) rfl)
def Fo(k:List aG)(h:aG):eY (.im<|V h) (aC k)=Z (.im<|.av<|!decide (h∈k)):=by
 show (eK (V h)<|aC k).map (λu=>ak.im<|.av<|!u)=_;rw[Dl];rfl
def Cw(k:List aG)(h:aG):eY (.im<|V h) (aN k)=Z (.im<|.av<|!decide (h∈k)):=by
 show (eK (V h)<|aN k).map (λu=>ak.im<|.av<|!u)=_;rw[sY];rfl
def rh(k:List aG)(h:aG):eG (.im<|V h) (aC k)=Z (.im<|.av<|decide (h∈k)):=by
 show (eK (V h)<|aC k).map (λu=>ak.im<|.av u)=_;rw[Dl];rfl
def Km(k:List aG)(h:aG):eG (.im<|V h) (aN k)=Z (.im<|.av<|decide (h∈k)):=by
 show (eK (V h)<|aN k).map (λu=>ak.im<|.av u)=_;rw[sY];rfl
def Qk(bs:List aG):er (aN bs) (.lst [])=Z (.im<|.av<|decide (bs=[])):=by
 show (if (ab.du 8 (bs.map V)&&ab.du 8 [])=X then Z (ak.im<|.av<|fS (bs.map V) []) else Y)=_;rw[qR,aJ<|show (X&&ab.du 8 [])=X from rfl];cases bs with
 |nil=>rfl
 |cons g u=>rfl
def Ni{e:ak}(m:ei (p+2) e)(N:aa.length<=1000)(x:aa≠[]):∃Sq,ei p Sq/\(nI [e,aC aa]=Z (.im .aV,[Sq,aC aa])\/∃g f,g∈aa/\f∈aa/\g≠f/\f∉cV g/\nI [e,aC aa]=Z (.im<|.tup [V g,V f],[Sq,aC aa])):=by
 have O:=r5.mpr x;let⟨v,t,y,z,Q,SD⟩:=jk (p:=p+1) (H:=(aa.length:Int)) m ⋯ ⋯;obtain⟨g,k⟩:∃g,aa[v.toNat]?=Z g:=⟨aa[v.toNat]'⋯,by simp⟩;let⟨l,rfl⟩:=m.lst;let⟨b,rfl⟩:=SD.lst;have A:dd [aC aa]=Z (aI (aa.length:Int)):=by
  show Z (ak.im<|.int ((aa.map V).length:Int))=_;rw[a9]
 have D:bR (aC aa) (aI v)=Z (.im<|V g):=by
  show (dH (aa.map V) v).map ak.im=_;rw[qk z k];rfl
 have o:bZ 2 (aF bR (ag 1)<|ai<|bq 2 G.fQ<|aq (ag 0)<|aq (ai<|bQ dd<|aq (ag 1) aB) aB) [Z (.lst l),Z<|aC aa,Y,Y]=Z (.bo,[Z (.lst b),Z<|aC aa,Z<|.im<|V g,Y]):=
  jm (su (Sy:=[Z (.lst l),Z<|aC aa,Y,Y]) (S2:=[Z (.lst b),Z<|aC aa,Y,Y]) rfl (iX<|ct (P:=[.aQ 0,.cf<|aI (aa.length:Int)]) (bJ rfl<|bJ (a4<|cW (bJ rfl rfl) rfl A) rfl) rfl rfl y rfl) rfl rfl D) (fH rfl) rfl;have E:b1 1 [2] (b4<|ag 1) (a0 0) G.u6 G.yH [Z (.lst b),Z<|aC aa,Z<|.im<|V g,Y]=Z (aN<|aa.filter λh=>!decide (h=g) && !decide (h∈cV g),[Z (.lst b),Z<|aC aa,Z<|.im<|V g,Y]):=by
  refine e2 (w:=aa.map V) (n:=Y) (Sy:=[Z (.lst b),Z<|aC aa,Z<|.im<|V g,Y]) rfl (j5 V (λh=>!decide (h=g) && !decide (h∈cV g)) V _ [] (λh W=>?_) (by rw[hc];lia)) rfl;refine⟨[Z (.im<|V h),Z<|.im<|V g],[Z (.im<|V h),Z<|.im<|V g],rfl,?_,λ_=>rfl,λ_=>⟨[Z (.im<|V h),Z<|.im<|V g],rfl,rfl⟩⟩;have S6:a8 (aF hn (ag 0)<|ag 1) [Z (.im<|V h),Z<|.im<|V g]=Z (!decide (h=g),[Z (.im<|V h),Z<|.im<|V g]):=cz (ed<|nQ h g);have S8:a8 (aF eY (ag 0)<|ai<|bq 1 G.mH<|aq (ag 1) aB) [Z (.im<|V h),Z<|.im<|V g]=Z (!decide (h∈cV g),[Z (.im<|V h),Z<|.im<|V g]):=cz (dc rfl (a4<|ct (P:=[.aQ 1]) rfl rfl rfl (wJ g) rfl) rfl rfl<|Cw (cV g) h);unfold u6;cases q:(!decide (h=g)) with
  |false=>rw[q]at S6;exact o_ S6
  |true=>rw[q]at S6;exact gG S6 (S8.trans (by rw[xI]))
 have d:bZ 3 (b1 1 [2] (b4<|ag 1) (a0 0) G.u6 G.yH) [Z (.lst b),Z<|aC aa,Z<|.im<|V g,Y]=Z (.bo,[Z (.lst b),Z<|aC aa,Z<|.im<|V g,Z<|aN<|aa.filter λh=>!decide (h=g) && !decide (h∈cV g)]):=kS E (fH rfl) rfl;generalize r:(aa.filter λh=>!decide (h=g) && !decide (h∈cV g))=a at d;have c:a8 (aF er (ag 3)<|ai<|eV aB) [Z (.lst b),Z<|aC aa,Z<|.im<|V g,Z<|aN a]=Z (decide (a=[]),[Z (.lst b),Z<|aC aa,Z<|.im<|V g,Z<|aN a]):=cz (dc rfl (a4 rfl) rfl rfl<|Qk a);by_cases i:a=[]
 ·rw[dw i]at c;refine⟨.lst b,SD.mono ⋯,.inl ?_⟩;unfold nI xd;exact dM (B:=[Z (.lst b),Z<|aC aa,Z<|.im<|V g,Z<|aN a]) rfl (bL o<|bL d<|la<|iD c rfl) rfl
 ·rw[dm i]at c;have TC:=r5.mpr i;have aQ:a.length<=aa.length:=by rw[<-r];exact pR _ _
  let⟨L,C,F,I,R,SP⟩:=jk (p:=p) (H:=(a.length:Int)) SD ⋯ ⋯;obtain⟨f,s⟩:∃f,a[L.toNat]?=Z f:=⟨a[L.toNat]'⋯,by simp⟩;let⟨j,rfl⟩:=SP.lst;have u:=j1 s;rw[<-r]at u;let⟨dp,di⟩:=gv.mp u;rw[cX,jo,jo,k8,k8]at di;refine⟨.lst j,SP,.inr ⟨g,f,j1 k,dp,λJ=>di.1 J.symm,di.2,?_⟩⟩;have aX:dd [aN a]=Z (aI (a.length:Int)):=by
   show Z (ak.im<|.int ((a.map V).length:Int))=_;rw[a9]
  have M:bR (aN a) (aI L)=Z (.im<|V f):=by
   show (dH (a.map V) L).map ak.im=_;rw[qk I s];rfl
  unfold nI xd;refine dM (B:=[Z (.lst j),Z<|aC aa,Z<|.im<|V g,Z<|aN a]) rfl (bL o<|bL d<|bL (e3 c rfl)<|eU<|tA (P:=[.aQ 2,.cf<|.im<|V f]) (Sy:=[Z (.lst j),Z<|aC aa,Z<|.im<|V g,Z<|aN a]) (uO rfl<|uO (iX<|su (Sy:=[Z (.lst b),Z<|aC aa,Z<|.im<|V g,Z<|aN a]) rfl (iX<|ct (P:=[.aQ 0,.cf<|aI (a.length:Int)]) (bJ rfl<|bJ (a4<|cW (bJ rfl rfl) rfl aX) rfl) rfl rfl F rfl) rfl rfl M) rfl) rfl (nP rfl) rfl) rfl
theorem vQ{SU:Type}(x:SU->Bool):∀w:List SU,k9 (w.map λu=>.av<|x u)=Z (w.map x)
 |[]=>rfl
 |d::w=>by
  show (k9<|w.map λu=>.av<|x u).map _=_;rw[vQ x w];rfl
def rg(x:SU->Bool)(w:List SU):hr [.lst (w.map λu=>.av<|x u)]=Z (.im<|.av<|w.all x):=by
 show (k9 _).map _=_;rw[vQ,qV,wZ];rfl
def gT(l:cR):Bool:=((l.zip<|l.drop 1).all λq=>decide (q.2∈cV q.1))
def iE.ah(e:iE F):F.Nodup:=by
 refine nx.mpr (e.imp λ{d y} c z=>?_);rw[z,uJ]at c;cases c
def lE.ah(e:lE S):S.Nodup:=by
 refine nx.mpr (e.imp λ{d y} c z=>?_);rw[z,uJ]at c;cases c
theorem mP(w:List SU):hr [.lst (w.map λ_=>.av X)]=Z (.im<|.av X):=(rg (λ_=>X) w).trans (by rw[kz.mpr λ_ W=>rfl])
def eN(l:cR):cR:=((l.drop 1).dropLast)
def FD(g f:aG)(H:cR):eN (g::(H++[f]))=H:=by
 unfold eN;rw[List.drop_one,List.tail_cons,Fw]
def RF(d y:SU)(H:List SU):gy (d::(H++[y])) (Z 1) (Z<|-1)=H:=by
 unfold gy dr.b_;have:(d::(H++[y])).length=H.length+2:=by simp
 rw[this];have b:∀o:Nat,o=1->((d::(H++[y])).drop o)=H++[y]:=λo a=>by rw[a];rfl
 simp only[];rw[b _ (by split<;>lia)];have c:∀o:Nat,o=H.length->(H++[y]).take o=H:=λo a=>by rw[a,List.take_left]
 exact c _ (by split<;>split<;>lia)
structure yR(aa:List aG)(g f:aG)(S:List cR):Prop where
 up:lE S
 dD:S.length<=1000
 len:∀l∈S,l.length<=1000
 c1:∀l∈S,∀h∈l,h∈aa
 ch:∀l∈S,gT l=X
 sA:∀l∈S,∃H,l=g::(H++[f])
 ah:(S.flatMap eN).Nodup
 aT:(S.flatMap eN).length<300
 na:g∉S.flatMap eN
 nb:f∉S.flatMap eN
def yR.ne(O:yR aa g f S):∀l∈S,l≠[]:=λl a=>by
 let⟨H,rfl⟩:=O.sA l a;exact tk _ _
def d4.rs(SN:d4 aa g f x D SE)(a:(f,ar)∉cx SE):bG.Rs aa (jr aa) g f x λh n=>(h,n)∈cx SE:=
 bG.Rs.of (cH.mpr ⟨_,j1 SN.s.ha,rfl⟩) (λj I e c=>SN.s.cl j e I<|Hr c) a
def pf:fJ SE h=X↔bG.Cut (λh n=>(h,n)∈cx SE) h:=by
 unfold fJ bG.Cut;rw[cX,jo,hO,k8]
def d4.bar(SN:d4 aa g f x D SE)(i:(f,ar)∉cx SE):¬ cQ (aa.filter λh=>!decide (h∈aa.filter (fJ SE))) g f:=λe=>by
 have Su:=SN.rs i;have P:∀d,cQ (aa.filter λh=>!decide (h∈aa.filter (fJ SE))) g d->(d,X)∈cx SE:=λd e=>by
  induction e with
  |self=>exact Su.start
  |@step y d _ k l a=>
   let⟨b,c⟩:=gv.mp k;rw[jo,k8]at c;have m:=Su.next y d a ⟨SN.s.inf _ a,b,l⟩;exact p8 λn=>c (gv.mpr ⟨b,pf.mpr ⟨m,n⟩⟩)
 exact Su.y9 (Su.c1 _<|P f e)
def d4.many(SN:d4 aa g f x D SE)(ah:aa.Nodup)(a:(f,ar)∉cx SE):(aa.filter<|fJ SE).length=D.length:=SN.w.many (SN.rs a) ah λh W=>pf
def d4.vX(SN:d4 aa g f x D SE)(a:(f,ar)∉cx SE):g∉aa.filter (fJ SE)/\f∉aa.filter (fJ SE):=by
 have Su:=SN.rs a;exact⟨λe=>(pf.mp (gv.mp e).2).2 Su.start,λe=>Su.y9 (pf.mp (gv.mp e).2).1⟩
def d4.free(SN:d4 aa g f x D SE)(s:f∈aa){F:List aG}(G:F.length<D.length)(m:∀h∈F,h≠g/\h≠f):cQ (aa.filter λh=>!decide (h∈F)) g f:=by
 have q:∀{d},d∈aa->d∉F->d∈aa.filter λh=>!decide (h∈F):=λt C=>gv.mpr ⟨t,by rw[dm C];rfl⟩;obtain⟨k,b,u⟩:∃k∈D,∀h∈F,h∉bG.c1 x k (d6 x g k):=by
  refine p8 λv=>?_;have j:∀k,∃h,k∈D->h∈F/\h∈bG.c1 x k (d6 x g k):=λk=>by
   by_cases b:k∈D
   ·refine p8 λy=>v ⟨k,b,λh t C=>y ⟨h,λ_=>⟨t,C⟩⟩⟩
   ·exact⟨g,λe=>absurd e b⟩
  have n:∀k,k∈D->(j k).choose∈F/\(j k).choose∈bG.c1 x k (d6 x g k):=λk=>(j k).choose_spec;have A:(D.map λk=>(j k).choose).Nodup:=mc (λd o y p c=>SN.w.apart o p (SN.ic o) (SN.ic p) (n d o).2 (by rw[show (j d).choose=(j y).choose from c];exact (n y p).2)) SN.w.ah;have:=A.length_le_of_subset (l₂:=F) λh m=>by
   let⟨k,b,rfl⟩:=cH.mp m;exact (n k b).1
  rw[a9]at this;lia
 have N:=SN.ic b;have P:∀i a,a+i=d6 x g k+1->cQ (aa.filter λh=>!decide (h∈F)) g (bG.it x a k):=λi=>by
  induction i with
  |zero=>
   intro a U;have:a=d6 x g k+1:=⋯
   rw[this,N.1];exact .self
  |succ i B=>
   intro a U;have z:=SN.w.steps N (a:=a) ⋯;have E:bG.it x a k∈bG.c1 x k (d6 x g k):=bG.mf.mpr ⟨a,⋯,rfl⟩;exact .step (B (a+1) ⋯) (q z.2.1 λr=>u _ r E) z.2.2
 exact .step (P (d6 x g k+1) 0 ⋯) (q s λr=>(m f r).2 rfl) ((SN.w.last k b).2.1).2.2
theorem A_{SU Tx:Type}(M:SU->List Tx):∀D:List SU,(D.flatMap λk=>(M k).reverse).Perm (D.flatMap M)
 |[]=>List.Perm.refl _
 |k::D=>by
  rw[n5,n5];exact (Dy _).append (A_ M D)
def zk(d y:aG)(u:cR):gT (d::y::u)=(decide (y∈cV d)&&gT (y::u)):=rfl
def d4.Ke(SN:d4 aa g f x D SE)(r:aa.length<=200)(n:g∈aa)(o:f∈aa){S:List cR}(S4:S.Perm (D.map<|fF x g f))(up:lE S):yR aa g f S:=by
 have dD:=SN.dD;have j:∀l∈S,∃k∈D,l=fF x g f k:=λl i=>by
  let⟨k,e,c⟩:=cH.mp (S4.mem_iff.mp i);exact⟨k,e,c.symm⟩
 have m:(S.flatMap eN).Perm (D.flatMap λk=>bG.c1 x k<|d6 x g k):=by
  refine (S4.flatMap_right eN).trans ?_;rw[List.flatMap_map];refine List.Perm.trans (wO ?_) (A_ (λk=>bG.c1 x k<|d6 x g k) D);congr 1;funext k;exact FD g f _
 have ah:=SN.w.Qh (p:=d6 x g) λk d=>SN.ic d;have sub:∀h∈D.flatMap λk=>bG.c1 x k<|d6 x g k,h∈aa/\h≠g/\h≠f:=λh b=>by
  let⟨k,d,e⟩:=zA.mp b;exact SN.w.Bi (SN.ic d) e
 have aT:=ah.length_le_of_subset (l₂:=aa) λh b=>(sub h b).1;refine⟨up,by rw[S4.length_eq,a9];lia,λl i=>?_,λl i h b=>?_,λl i=>?_,λl i=>?_,m.nodup_iff.mpr ah,by rw[m.length_eq];lia,λe=>(sub g<|m.mem_iff.mp e).2.1 rfl,λe=>(sub f<|m.mem_iff.mp e).2.2 rfl⟩
 ·let⟨k,d,rfl⟩:=j l i;have:=SN.xh d;unfold fF bG.c1;rw[dF,c5,rA,a9,iP,eD];lia
 ·let⟨k,d,rfl⟩:=j l i;unfold fF at b;rcases cq.mp b with rfl|b
  ·exact n
  ·rcases dt.mp b with b|b
   ·exact (SN.w.Bi (SN.ic d)<|rI.mp b).1
   ·rw[cA.mp b];exact o
 ·let⟨k,d,rfl⟩:=j l i;have N:=SN.ic d;have P:∀H,H<=d6 x g k+1->gT (bG.it x H k::(((range H).map λa=>bG.it x a k).reverse++[f]))=X:=λH=>by
   induction H with
   |zero=>
    intro W;show (decide (f∈cV k)&&X)=X;rw[dw (SN.w.last k d).2.1.2.2];rfl
   |succ H q=>
    intro e;rw[yt,eF,EW];show gT (bG.it x (H+1) k::bG.it x H k::(((range H).map λa=>bG.it x a k).reverse++[f]))=X;rw[zk,q ⋯,dw (SN.w.steps N (a:=H) ⋯).2.2];rfl
  have:=P (d6 x g k+1) (bl _);rw[N.1]at this;exact this
 ·let⟨k,d,rfl⟩:=j l i;exact⟨_,rfl⟩
def cQ.trans{a:aG}(e:cQ aa d y)(o:cQ aa y a):cQ aa d a:=by
 induction o with
 |self=>exact e
 |step _ t C b=>exact .step b t C
def cQ.c1(a:d∈aa)(e:cQ aa d y):y∈aa:=by
 cases e with
 |self=>exact a
 |step _ t _=>exact t
theorem Ht(e:y∈cV d):d∈cV y:=(EB (aa:=[d,y]) ⟨.head _,.tail _<|.head _,e⟩).2.2
def cQ.sym(a:d∈aa)(e:cQ aa d y):cQ aa y d:=by
 induction e with
 |self=>exact .self
 |step b t C c=>exact (cQ.step .self (cQ.c1 a b)<|Ht C).trans c
def C3{j:aG}(e:∀d,d∈aa↔cQ F j d){g f:aG}(a:g∈aa)(b:f∈aa):cQ aa g f:=by
 have P:∀d,cQ F j d->cQ aa j d:=λd c=>by
  induction c with
  |self=>exact .self
  |step h t C i=>exact .step i ((e _).mpr<|.step h t C) C
 have k:j∈aa:=(e j).mpr .self;exact (cQ.sym k<|P g<|(e g).mp a).trans (P f<|(e f).mp b)
def OL(d y:aG)(j I:Int):bx (V (d.1+j,d.2+I)) (V (y.1+j,y.2+I))=bx (V d) (V y):=by
 have f:∀a i:Int,ab.beq (.int<|a) (.int i)=decide (a=i):=λa i=>by rw[ab.beq]
 have c:∀d y:aG,bx (V d) (V y)=if d.1=y.1 then decide (d.2<y.2) else decide (d.1<y.1):=λd y=>by
  show (if ab.beq (.int d.1) (.int y.1)=X then (if ab.beq (.int d.2) (.int y.2)=X then ar else decide (d.2<y.2)) else decide (d.1<y.1))=_;rw[f,f];by_cases t:d.1=y.1
  ·rw[dw t,aJ rfl,aJ t];by_cases C:d.2=y.2
   ·rw[dw C,aJ rfl,C,dm<|Int.lt_irrefl _]
   ·rw[dm C,aM dA]
  ·rw[dm t,aM dA,aM t]
 rw[c,c];simp only[Int.add_left_inj,Int.add_lt_add_iff_right]
def Np(j I:Int)(e:cQ F g d):cQ (F.map λh=>(h.1+j,h.2+I)) (g.1+j,g.2+I) (d.1+j,d.2+I):=by
 induction e with
 |self=>exact .self
 |step _ t C a=>
  refine .step a (cH.mpr ⟨_,t,rfl⟩) ?_;unfold cV at C ⊢;simp only[cq,ni,iZ,qA]at C ⊢;lia
def Hh{j I:Int}(e:cQ (F.map λh=>(h.1+j,h.2+I)) (g.1+j,g.2+I) d):cQ F g (d.1-j,d.2-I):=by
 induction e with
 |self=>
  have:(((g.1+j,g.2+I):aG).1-j,((g.1+j,g.2+I):aG).2-I)=g:=by rw[qA];exact⟨sh _ _,sh _ _⟩
  rw[this];exact .self
 |@step y c _ t C a=>
  let⟨h,b,rfl⟩:=cH.mp t;have:(((h.1+j,h.2+I):aG).1-j,((h.1+j,h.2+I):aG).2-I)=h:=by rw[qA];exact⟨sh _ _,sh _ _⟩
  rw[this];refine .step a b ?_;unfold cV at C ⊢;simp only[cq,ni,iZ,qA]at C ⊢;lia
def Hc(b:0<H)(J:H<=140){e:ak}(m:ei (p+400) e):∃Sq F,oo [e,aI H]=Z (aN F,[Sq,aI H])/\ei p Sq/\F≠[]/\F.length<=50+H.toNat/\∀h∈F,iS h:=by
 let⟨v,t,g,L,M,SD⟩:=jk (p:=p+399) (H:=H) m b ⋯;have i:rf v:=⟨⋯,⋯⟩;let⟨SR,j,⟨C,F,Tf,S0,rfl,SP,k,l,q⟩⟩:=w6 (S1:=a0 3) (f:=uB) (w:=gn 0 v.toNat) (λa B=>∃e F Tf S0,B=[Z e,Z<|aI H,Z<|aN F,Tf,S0]/\ei (p+398-2*a) e/\F≠[]/\F.length<=a+1/\∀h∈F,iS h) (B:=[Z t,Z<|aI H,Z<|aN [(12,12)],Y,Y]) ⟨t,[(12,12)],Y,Y,rfl,SD.mono ⋯,by simp,by simp,λh r=>by rw[cA.mp r];exact⟨by decide,by decide,by decide,by decide⟩⟩
  (λa d B s d2=>by
   let⟨e,F,Tf,S0,rfl,u,Td,Te,x⟩:=d2;have U:a<v.toNat:=by
    have:=(fX.mp s).1
    rwa [gn,a9,iP]at this
   let⟨Sq,y,N,c,T,z,O,A⟩:=Q2 (p:=p+398-2*(a+1)) (H:=H) (o:=Z (.im d)) (S0:=S0) (u.mono ⋯) Td ⋯ x;exact⟨[Z e,Z<|aI H,Z<|aN F,Z<|.im d,S0],.bo,_,rfl,c,.inl rfl,Sq,y,_,_,rfl,T,z,⋯,A⟩)
 have D:(gn 0 v.toNat).length=v.toNat:=by rw[gn,a9,iP]
 rw[D]at SP l;refine⟨C,F,?_,SP.mono ⋯,k,⋯,q⟩;let⟨E,rfl⟩:=m.lst;let⟨G,rfl⟩:=SD.lst;let⟨I,rfl⟩:=SP.lst;unfold oo GN;refine sk [Z (.lst I),Z<|aI H,Z .dB,Tf,S0] rfl ((ht (Sy:=[Z (.lst E),Z<|aI H,Z<|aN [(12,12)],Y,Y]) rfl).trans<|(ht<|sX (n:=Y) (w:=gn 0 v.toNat) (Sy:=[Z (.lst G),Z<|aI H,Z<|aN [(12,12)],Y,Y]) ?_ j).trans rfl) rfl;simp -implicitDefEqProofs [g,i]
def QY(s:0<H)(x:H<=140){e:ak}{b l d:Int}{F:List (Int×Int)}(m:ei (p+402) e)(L:0<=b)(M:b<6)(f:(0,0)∈F)(N:F.length<=49)(g:∀h∈F,iS h):
  ∃Sq a T,mid [Z e,Z<|aI H,Z<|aI b,Z<|aI l,Z<|aI d,Z<|aN F,Y,Y,Y,Y]=Z (.bo,[Z Sq,Z<|aI H,Z<|aI b,Z<|aI l,Z<|aI d,Z<|aN a,T,Y,Y,Y])/\ei p Sq/\a≠[]/\a.length<=50+H.toNat/\∀h∈a,iS h:=by
 have P:=wD f;have o:∀b:Int,∃Sq a T,gj (je<|aq (ai<|bq 2 G.fQ<|aq (ag 0)<|aq (ai<|aF e0 (ai<|aE<|.int 1)<|ai<|aF mi (ai<|bQ dd<|aq (ag 5) aB)<|ai<|aE<|.int 2) aB) aB) (a0 6) G.o1 [Z e,Z<|aI H,Z<|aI b,Z<|aI l,Z<|aI d,Z<|aN F,Y,Y,Y,Y]=Z (.bo,[Z Sq,Z<|aI H,Z<|aI b,Z<|aI l,Z<|aI d,Z<|aN a,T,Y,Y,Y])/\ei p Sq/\a≠[]/\a.length<=50+H.toNat/\∀h∈a,iS h:=λb=>by
  let⟨v,t,y,Q,R,SD⟩:=jk (p:=p+200) (H:=1+(F.length:Int)/2) (m.mono ⋯) ⋯ ⋯;have z:rf v:=⟨⋯,⋯⟩;let⟨C,i,T,A,SP,j,q,k⟩:=PO (E:=Z (aI H)) (Tn:=Z (aI b)) (Tf:=Z (aI l)) (S0:=Z (aI d)) (O:=Y) (Tz:=Y) (Tt:=Y) (T:=Y) v.toNat SD (F:=F) ⋯ ⋯ g;refine⟨C,i,T,?_,SP,j,⋯,k⟩;let⟨B,rfl⟩:=m.lst;let⟨D,rfl⟩:=SD.lst;refine (sX (n:=Y) (w:=gn 0 v.toNat) (Sy:=[Z (.lst D),Z<|aI H,Z<|aI b,Z<|aI l,Z<|aI d,Z<|aN F,Y,Y,Y,Y]) ?_ A).trans rfl;simp -implicitDefEqProofs [y,z]
 have r:∀b:Int,∃Sq a T,bZ 5 (bq 2 G.oo<|aq (ag 0)<|aq (ag 1) aB) [Z e,Z<|aI H,Z<|aI b,Z<|aI l,Z<|aI d,Z<|aN F,Y,Y,Y,Y]=Z (.bo,[Z Sq,Z<|aI H,Z<|aI b,Z<|aI l,Z<|aI d,Z<|aN a,T,Y,Y,Y])/\ei p Sq/\a≠[]/\a.length<=50+H.toNat/\∀h∈a,iS h:=λb=>by
  let⟨C,i,c,SP,j,q,k⟩:=Hc (p:=p) s x (m.mono ⋯);refine⟨C,i,Y,?_,SP,j,q,k⟩;let⟨B,rfl⟩:=m.lst;let⟨S,rfl⟩:=SP.lst;simp -implicitDefEqProofs [c]
 have I:b=0\/b=1\/b=2\/b=3\/b=4\/b=5:=⋯
 unfold mid;rcases I with rfl|rfl|rfl|rfl|rfl|rfl
 ·exact⟨e,F,Y,rfl,m.mono ⋯,xW f,⋯,g⟩
 ·let⟨Sq,a,T,c,u⟩:=o 1;exact⟨Sq,a,T,c,u⟩
 ·let⟨Sq,a,T,c,u⟩:=o 2;exact⟨Sq,a,T,c,u⟩
 ·exact⟨e,F.filter og,Y,Nj ⋯,m.mono ⋯,xW (gv.mpr ⟨f,by decide⟩),by have:=pR og F;lia,λh J=>g h (gv.mp J).1⟩
 ·let⟨Sq,a,T,c,u⟩:=r 4;exact⟨Sq,a,T,c,u⟩
 ·let⟨Sq,a,T,c,u⟩:=r 5;exact⟨Sq,a,T,c,u⟩
def He(N:0<H)(P:H<=140){e:ak}(m:ei (p+500) e):∃Sq b,oT [e,aI H]=Z (aC b,[Sq,aI H])/\ei p Sq/\b≠[]/\b.length<=51+H.toNat/\iE b/\(∃(i:List aG) (q:aG),∀d,d∈b↔cQ i q d)/\∀h∈b,0<=h.1/\h.1<=30/\0<=h.2/\h.2<=30:=by
 let⟨c,t,Q,S,U,SD⟩:=jk (p:=p+499) (H:=6) m ⋯ ⋯;let⟨l,C,al,dp,di,SP⟩:=jk (p:=p+498) (H:=7) SD ⋯ ⋯;obtain⟨n,am⟩:∃n:Int,n=H/(1+l):=⟨_,rfl⟩;obtain⟨g,u⟩:∃g:Int,g=(if n<7 then n else 7):=⟨_,rfl⟩;obtain⟨k,v⟩:∃k:Int,k=(if g>1 then g else 1):=⟨_,rfl⟩;have db:g<=7:=by rw[u];split<;>lia
 have ds:k<=7/\0<k:=by rw[v];split<;>lia
 let⟨a,dL,an,eq,ev,w⟩:=jk (p:=p+497) (H:=k) SP ⋯ ⋯;have o:0<1+l:=⋯
 have r:1+l<=7:=⋯
 have x:0<1+a:=⋯
 have s:1+a<=7:=⋯
 have ap:0<(1+a)*(1+l):=BZ x o;have ex:(1+a)*(1+l)<=49:=Ee s r ⋯ ⋯;have as:(((1+a)*(1+l)).toNat:Int)<=7*(1+l):=by rw[yE (yD ap)];exact Int.mul_le_mul_of_nonneg_right s (yD o)
 let⟨fd,F,T,a1,z,Td,Te,A⟩:=QY (p:=p+3) N P (b:=c) (l:=1+l) (d:=1+a) (F:=lN (1+l) ((1+a)*(1+l)).toNat) (w.mono ⋯) S U (Q1 ⋯) (by rw[Mp];lia) (IS o r as);have fn:=r5.mpr Td;let⟨B,fr,a2,bd,f0,D⟩:=jk (p:=p+2) (H:=(F.length:Int)) z ⋯ ⋯;obtain⟨f,G⟩:∃f,F[B.toNat]?=Z f:=⟨F[B.toNat]'⋯,by simp⟩;let⟨b,be,S6,S8,f1,W⟩:=Nn (d:=aN F) (F:=F) (f:=f) (.inl rfl) ⋯;let⟨j,I,bi,bm,⟨R,f2,f4,J⟩,M⟩:=L7 (p:=p) (E:=Z (aI H)) (Tn:=Z (aI c)) (Tf:=Z (aI<|1+l)) (S0:=Z (aI<|1+a)) (S_:=Z (aN F)) (T:=T) (O:=Z (aC b)) (Tz:=Y) (Tt:=Y) D;refine⟨bi,b.map λh=>(h.1+j,h.2+I),?_,M,?_,by rw[a9];lia,mE.mpr (S6.imp λ{d y} e=>by rw[OL];exact e),⟨F.map λh=>(h.1+j,h.2+I),(f.1+j,f.2+I),λd=>?_⟩,λh bn=>?_⟩
 ·let⟨f8,rfl⟩:=m.lst;let⟨bs,rfl⟩:=SD.lst;let⟨bv,rfl⟩:=SP.lst;let⟨ca,rfl⟩:=w.lst;let⟨ga,rfl⟩:=z.lst;let⟨cd,rfl⟩:=D.lst;let⟨ce,rfl⟩:=M.lst;have J:=qk bd G;unfold oT EO;refine sk [Z (.lst ce),Z<|aI H,Z<|aI c,Z<|aI<|1+l,Z<|aI<|1+a,Z<|aN F,T,Z<|aC b,Z<|aI j,Z<|aI I] rfl
   ((ht (Sy:=[Z (.lst bs),Z<|aI H,Z<|aI c,Y,Y,Y,Y,Y,Y,Y]) ?_).trans
   ((ht (Sy:=[Z (.lst bv),Z<|aI H,Z<|aI c,Z<|aI<|1+l,Y,Y,Y,Y,Y,Y]) ?_).trans
   ((ht (Sy:=[Z (.lst ca),Z<|aI H,Z<|aI c,Z<|aI<|1+l,Z<|aI<|1+a,Y,Y,Y,Y,Y]) ?_).trans
   ((ht<|OW o r x s).trans
   ((ht a1).trans
   ((ht (Sy:=[Z (.lst cd),Z<|aI H,Z<|aI c,Z<|aI<|1+l,Z<|aI<|1+a,Z<|aN F,T,Z<|aC b,Y,Y]) ?_).trans
   ((ht bm).trans (eU (Ho ⋯))))))))) rfl
  ·simp -implicitDefEqProofs [Q]
  ·simp -implicitDefEqProofs [al]
  ·have ch:1+l<1073741824:=⋯
   have ci:r3 [aI 7,aI n]=Z (aI g):=by rw[OS,<-u]
   have cl:qH [aI 1,aI g]=Z (aI k):=by rw[Mt,<-v]
   simp -implicitDefEqProofs [an,o,ch,<-am,ci,cl]
  ·simp -implicitDefEqProofs [a2,J,be]
 ·have:=(S8 f).mpr .self;exact λq=>by rw[A8]at q;rw[q]at this;cases this
 ·rw[cH];constructor
  ·rintro⟨L,co,rfl⟩;exact Np j I ((S8 L).mp co)
  ·intro e;refine⟨(d.1-j,d.2-I),(S8 _).mpr ?_,by rw[qA];exact⟨Fh _ _,Fh _ _⟩⟩;exact Hh e
 ·let⟨L,cr,rfl⟩:=cH.mp bn;have cs:iS L:=by
   cases (S8 L).mp cr with
   |self=>exact A _ (j1 G)
   |step _ t _=>exact A L t
  let⟨ge,gl,go,gt⟩:=cs;exact⟨by show 0<=L.1+j;lia,by show L.1+j<=30;lia,by show 0<=L.2+I;lia,by show L.2+I<=30;lia⟩
def cQ.mono{J:List aG}(j:∀h∈F,h∈J)(e:cQ F g d):cQ J g d:=by
 induction e with
 |self=>exact .self
 |step _ t C a=>exact .step a (j _ t) C
structure mS(aa:List aG)(g f:aG)(F:List aG):Prop where
 bar:¬ cQ (aa.filter λh=>!decide (h∈F)) g f
 na:g∉F
 nb:f∉F
 free:∀w:List aG,w.length<F.length->(∀h∈w,h≠g/\h≠f)->cQ (aa.filter λh=>!decide (h∈w)) g f
def oY:(d∈aa.filter λh=>!decide (h∈F))↔d∈aa/\d∉F:=by
 rw[gv,jo,k8]
def mS.ne(SN:mS aa g f F):∀h∈F,h≠g/\h≠f:=λh a=>⟨λc=>SN.na<|c ▸ a,λc=>SN.nb<|c ▸ a⟩
def mz(F:List aG):dd [aC F]=Z (aI (F.length:Int)):=by
 show Z (ak.im<|.int ((F.map V).length:Int))=_;rw[a9]
abbrev hd(s j I:Int):ak:=.lst [.int s,.int j,.int I]
abbrev kv(f:Bool):ak:=.im (.av f)
def eH(SH:List (Int×Int))(h:Int×Int):List (Int×Int):=(if h∈SH then SH else SH++[h])
def yW(SH:List (Int×Int))(h:Int×Int):fv (aU SH) (c9 h) (.av X)=aU (eH SH h):=by
 unfold eH;by_cases e:h∈SH
 ·rw[aJ e];unfold fv;rw[aJ (by rw[sO];simpa using e)];unfold aU;rw[gf];refine mm λd W=>?_;show (if c9 d=c9 h then (c9 d,ab.av X) else (c9 d,ab.av X))=_;split<;>rfl
 ·rw[aM e];exact AS e
abbrev xc(e:ak)(E:Option ak)(a b c d f:Int)(SH:List (Int×Int))(Tz Tt g h i j:Option ak):a7:=[Z e,E,Z<|aI a,Z<|aI b,Z<|aI c,Z<|aI d,Z<|aI f,Z<|.ay<|aU SH,Tz,Tt,g,h,i,j]
def i0(F:List (Int×Int)):Prop:=(F.Pairwise λg f=>bx (V g) (V f)=X)
def NK{SH:List (Int×Int)}(ah:SH.Nodup)(a:SH.length<=1000):∃F:List (Int×Int),ia bx (SH.map V)=F.map V/\F.Perm SH/\i0 F:=by
 have n:=w7 ah a;let⟨@F,t,C⟩:=Ca (jJ<|SH.map V);refine⟨F,C,t,?_⟩;have:=tK n.ord.ah n.ord.kd;rw[C]at this;exact mE.mp this
abbrev cm:=Int×Int
theorem q2(b:Option ak):∀(F SH:List cm) (Tn:Option ak),SH.length+F.length<100000->∃a,d3 (a0 2) qq (F.map V) [b,Z<|.ay<|aU SH,Tn]=Z (.bo,[b,Z<|.ay<|aU<|F.foldl eH SH,a])
 |[],SH,Tn,_=>⟨Tn,rfl⟩
 |h::F,SH,Tn,d=>by
  have e:gN (.ay<|aU SH) (.im<|.tup<|c9 h) (kv X)=Z (.ay<|aU<|eH SH h):=by
   rw[<-yW];exact aJ ⟨rfl,by unfold aU;rw[a9];rw[dF]at d;lia⟩
  have v:(eH SH h).length<=SH.length+1:=by
   unfold eH;split
   ·lia
   ·rw[c5];exact bl _
  let⟨@a,f⟩:=q2 b F (eH SH h) (Z<|.im<|V h) (by rw[dF]at d;lia);refine⟨a,?_⟩;have c:qq [b,Z<|.ay<|aU SH,Z<|.im<|V h]=Z (.bo,[b,Z<|.ay<|aU<|eH SH h,Z<|.im<|V h]):=by
   unfold qq;refine p1 rfl ?_;show (gN (.ay<|aU SH) (.im<|.tup<|c9 h)<|kv X).map _=_;rw[e];rfl
  rw[cE,d3];show (qq [b,Z<|.ay<|aU SH,Z<|.im<|V h]).bind _=_;rw[c];exact f
theorem x9:∀(F SH:List cm),(SH++F).Nodup->F.foldl eH SH=SH++F
 |[],SH,_=>by rw[cB];rfl
 |h::F,SH,ah=>by
  have a:h∉SH:=λe=>by
   have:=(df.mp ah).2.2 h e h (.head _);exact this rfl
  rw[jj,eH,aM a,x9 F (SH++[h]) (by rw[bC];exact ah),bC];rfl
def u7{F:List cm}(ah:F.Nodup)(b:F.length<10000):f9 [aC F]=Z (.ay<|aU F,[aC F]):=by
 let⟨@n,a⟩:=q2 (Z<|aC F) F [] Y (by show 0+_<_;lia);rw[x9 F [] ah]at a;unfold f9 rp;refine dM (B:=[Z (aC F),Z .dB,n]) rfl (bL (Sy:=[Z (aC F),Z<|.ay [],Y]) rfl<|bL (jy (n:=Y) rfl a rfl) rfl) rfl
def Oh{F:List cm}(ah:F.Nodup)(b:F.length<10000):f9 [aN F]=Z (.ay<|aU F,[aN F]):=by
 let⟨@n,a⟩:=q2 (Z .dB) F [] Y (by show 0+_<_;lia);rw[x9 F [] ah]at a;unfold f9 rp;refine dM (B:=[Z (aN F),Z .dB,n]) rfl (bL (Sy:=[Z (aN F),Z<|.ay [],Y]) rfl<|bL (jy (n:=Z (0,aN F)) (Sy:=[Z .dB,Z<|.ay [],Y]) rfl a rfl) rfl) rfl
def iB(h:cm):List cm:=([(h.1-1,h.2),(h.1,h.2-1),(h.1,h.2+1),(h.1+1,h.2)])
def P0(h:cm):i1 [.im (V h)]=Z (aN<|iB h,[.im (V h)]):=rfl
def qY(SH:List cm)(h:cm):eG (.im<|V h) (.ay<|aU SH)=Z (kv<|decide (h∈SH)):=by
 rw[<-wX];rfl
def Ny{S2 Tq:a7}{x R:fW}{Ts To cT:aA bP}{d y a:bP}{Td Te b c:ak}{f e:Bool}(g:Ts B=Z (d,Sy))(h:To Sy=Z (y,S2))(i:dW S2 d=Z Td)(j:dW S2 y=Z Te)(k:x Td Te=Z (kv f))(l:cT S2=Z (a,Tq))(m:dW Tq y=Z b)(n:dW Tq a=Z c)(o:R b c=Z (kv e))(p:Tq=S2):h5 x R Ts To cT B=Z (kv<|f&&e,S2):=by
 subst p;unfold h5;rw[g];show (To Sy).bind _=_;rw[h];show (dW Tq d).bind _=_;rw[i];show (dW Tq y).bind _=_;rw[j];show (x Td Te).bind _=_;rw[k];cases f
 ·rfl
 ·show (cT Tq).bind _=_;rw[l];show (dW Tq y).bind _=_;rw[m];show (dW Tq a).bind _=_;rw[n];show (R b c).bind _=_;rw[o];rfl
def Rq:ab->Bool
 |.int a=>decide (0<=a)&&decide (a<31)
 |_=>ar
def Jj{w:List ab}(c:M B=Z (s,Sy))(o:kj s=Z w):b4 (ai M) B=Z ((w,Y),Sy):=by
 unfold b4;rw[iX c];show (kj s).map _=_;rw[o];rfl
def sr(g f:cm):Bool:=(decide ((if g.1-f.1<0 then -(g.1-f.1) else g.1-f.1)+(if g.2-f.2<0 then -(g.2-f.2) else g.2-f.2)=1))
def td{g f:cm}:sr g f=X↔f∈iB g:=by
 let⟨a,b⟩:=g;let⟨dp,di⟩:=f;unfold sr iB;rw[hO];simp only[cq,ni,iZ,tW];lia
inductive nL (F:List cm) (j:cm):cm->Prop
 | self:nL F j j
 | step {g f:cm}:nL F j g->f∈F->sr g f=X->nL F j f
def NP(SH:List cm)(h:cm):eY (.im<|V h) (.ay<|aU SH)=Z (kv<|!decide (h∈SH)):=by
 have:=qY SH h;show (eK (V h)<|.ay<|aU SH).map (λu=>ak.im<|.av<|!u)=_;have C:(eK (V h)<|.ay<|aU SH).map (λu=>ak.im<|.av u)=Z (kv<|decide (h∈SH)):=this;let⟨@u,a,b⟩:=cJ.mp C;rw[a];cases b;rfl
end G
namespace dr
def yM{SU:Type}:List SU->List SU
 |[]=>[]
 |[g]=>[g]
 |g::_::u=>g::yM u
open Spec PyProof.Rows
end dr
namespace L2
open Spec PyProof.Rows
end L2
namespace G
open L2
variable{l x F:List cm}{j h:cm}{q:List cm×List cm}{E:Option ak}
def qm:bH:=((dy (d5 (a8<|aF eG (ag 4)<|ag 0)<|a8<|aF eY (ag 4)<|ag 2) (bt (gW (aE<|.av X)<|i7 2 (et 4) gN)<|ie<|gw hj 3 kP<|aq (ag 4) aB) en))
def GC:aA Bool:=((eP<|ag 3))
def vv:bH:=((gj (b4<|ai<|bq 1 G.i1<|aq (ai<|gw hj 3 qX aB) aB) (a0 4) G.qm))
def GI:bH:=((bt (bZ 2<|vq (et 1)<|aE<|.av X)<|bt (bZ 3<|eV<|aq (ag 1) aB)<|bt (il G.GC G.vv 1000000)<|cF<|bQ gY<|aq (ai<|bQ hD<|aq (ag 2) aB) aB))
def mW:c0:=(c_ 2 5 [0,1] GI)
def EA(a:af):bH:=((bt (dy (fG (eJ<|eP<|ai<|bq 1 (G.q0 a)<|aq (ag 0) aB)<|a8<|aF er (ai<|bQ dd<|aq (ag 0) aB)<|ai<|aE<|.int 0) (cF<|aE<|.av ar) en)<|cF<|aF er (ai<|bQ dd<|aq (ai<|bq 2 G.mW<|aq (ai<|bq 1 G.f9<|aq (ag 0) aB)<|aq (ai<|aF bR (ag 0)<|ai<|aE<|.int 0) aB) aB)<|ai<|bQ dd<|aq (ag 0) aB))
def gQ(a:af):c0:=(c_ 1 1 [0] (EA a))
theorem BO{SU:Type}[DecidableEq SU]:∀{k H:List SU},k.Nodup->(∀d∈k,d∈H)->k.length<=H.length
 |[],_,_,_=>gI _
 |d::k,H,ah,e=>by
  have bo:=gV.mp ah;have:=BO (H:=H.erase d) bo.2 λy a=>(GB (λc=>bo.1 (by rw[<-c];exact a))).mpr (e y<|.tail _ a);have c:=CK (e d<|.head _);have q:=wD (e d<|.head _);rw[dF];lia
def dO(F:List cm)(q:List cm×List cm)(h:cm):List cm×List cm:=(if h∈F/\h∉q.1 then (q.1++[h],q.2++[h]) else q)
abbrev g7(E:Option ak)(F:List cm)(q:List cm×List cm)(S0:Option ak):a7:=[Z (.ay<|aU F),E,Z<|.ay<|aU q.1,Z<|aN q.2,S0]
def QJ(t:q.1.length<10000)(C:q.2.length<10000):qm (g7 E F q<|Z<|.im<|V h)=Z (.bo,g7 E F (dO F q h)<|Z<|.im<|V h):=by
 have S6:a8 (aF eG (ag 4)<|ag 0) (g7 E F q<|Z<|.im<|V h)=Z (decide (h∈F),g7 E F q<|Z<|.im<|V h):=cz (ed<|qY F h);have S8:a8 (aF eY (ag 4)<|ag 2) (g7 E F q<|Z<|.im<|V h)=Z (!decide (h∈q.1),g7 E F q<|Z<|.im<|V h):=cz (ed<|NP q.1 h);unfold qm dO;by_cases g:h∈F
 ·rw[dw g]at S6;by_cases f:h∈q.1
  ·rw[dw f]at S8;rw[aM λa=>a.2 f];exact e3 (gG S6 S8) rfl
  ·rw[dm f]at S8;rw[aJ ⟨g,f⟩];have b:gN (.ay<|aU q.1) (.im<|.tup<|c9 h) (kv X)=Z (.ay<|aU<|q.1++[h]):=by
    have c:eH q.1 h=q.1++[h]:=by unfold eH;rw[aM f]
    rw[<-c,<-yW];exact aJ ⟨rfl,by unfold aU;rw[a9];lia⟩
   refine iD (gG S6 S8) (bL (Sy:=[Z (.ay<|aU F),E,Z<|.ay<|aU<|q.1++[h],Z<|aN q.2,Z<|.im<|V h]) ?_ ?_)
   ·refine p1 rfl ?_;show (gN (.ay<|aU q.1) (.im<|.tup<|c9 h)<|kv X).map _=_;rw[b];rfl
   ·refine l3 (mF rfl rfl (bJ rfl rfl) rfl rfl (r1 (by rw[a9];lia)) ?_);show _=[Z (.ay<|aU F),E,Z<|.ay<|aU<|q.1++[h],Z<|aN<|q.2++[h],Z<|.im<|V h];unfold aN;rw[eF];rfl
 ·rw[dm g]at S6;rw[aM λa=>g a.1];exact e3 (o_ S6) rfl
def Hl(F:List cm)(q:List cm×List cm)(h:cm):(dO F q h).1.length<=q.1.length+1/\(dO F q h).2.length<=q.2.length+1:=by
 unfold dO;split
 ·rw[c5,c5];exact⟨bl _,bl _⟩
 ·exact⟨⋯,⋯⟩
theorem BX{E:Option ak}{F:List cm}:∀(w:List cm) (q:List cm×List cm) (S0:Option ak),q.1.length+w.length<10000->q.2.length+w.length<10000->∃a,d3 (a0 4) qm (w.map V) (g7 E F q S0)=Z (.bo,g7 E F (w.foldl (dO F) q) a)
 |[],q,S0,_,_=>⟨S0,rfl⟩
 |h::w,q,S0,t,C=>by
  rw[dF]at t C;have k:=Hl F q h;let⟨a,b⟩:=BX (E:=E) w (dO F q h) (Z<|.im<|V h) ⋯ ⋯;refine⟨a,?_⟩;rw[cE,d3];show (qm<|g7 E F q<|Z<|.im<|V h).bind _=_;rw[QJ ⋯ ⋯];exact b
structure lZ(F:List cm)(j:cm)(q:List cm×List cm):Prop where
 ah:q.1.Nodup
 yI:j∈q.1
 con:∀d∈q.1,nL F j d
 sub:∀d∈q.1,d=j\/d∈F
 wG:∀d∈q.2,d∈q.1
def lZ.step{F:List cm}{j d:cm}{q:List cm×List cm}(R:lZ F j q)(b:d∈q.1){h:cm}(i:h∈iB d):lZ F j (dO F q h):=by
 unfold dO;split
 ·rename_i e;refine⟨?_,dK _ R.yI,λy a=>?_,λy a=>?_,λy a=>?_⟩
  ·rw[df];exact⟨R.ah,ep _ _,λg k f l c=>e.2 (by rw[<-cA.mp l,<-c];exact k)⟩
  ·rcases dt.mp a with z|z
   ·exact R.con y z
   ·rw[cA.mp z];exact .step (R.con d b) e.1 (td.mpr i)
  ·rcases dt.mp a with z|z
   ·exact R.sub y z
   ·rw[cA.mp z];exact .inr e.1
  ·rcases dt.mp a with z|z
   ·exact dK _ (R.wG y z)
   ·exact dQ _ z
 ·exact R
def PA{y:cm}:(y∈q.1->y∈(dO F q h).1)/\(y∈q.2->y∈(dO F q h).2)/\(y∈(dO F q h).1->y∈q.1\/y∈(dO F q h).2)/\(h∈F->h∈(dO F q h).1):=by
 unfold dO;split
 ·rename_i e;refine⟨λz=>dK _ z,λz=>dK _ z,λz=>?_,λ_=>dQ _<|.head _⟩;rcases dt.mp z with z|z
  ·exact .inl z
  ·exact .inr (dQ _ z)
 ·rename_i e;refine⟨λz=>z,λz=>z,.inl,λz=>?_⟩;by_cases r:h∈q.1
  ·exact r
  ·exact absurd ⟨z,r⟩ e
theorem Dt{F:List cm}{j d:cm}:∀(w:List cm) (q:List cm×List cm),(∀h∈w,h∈iB d)->d∈q.1->lZ F j q->lZ F j (w.foldl (dO F) q)/\(∀y,y∈q.1->y∈(w.foldl (dO F) q).1)/\(∀y,y∈q.2->y∈(w.foldl (dO F) q).2)/\(∀y,y∈(w.foldl (dO F) q).1->y∈q.1\/y∈(w.foldl (dO F) q).2)/\(∀h∈w,h∈F->h∈(w.foldl (dO F) q).1)/\(w.foldl (dO F) q).1.length+q.2.length=(w.foldl (dO F) q).2.length+q.1.length
 |[],q,_,_,R=>⟨R,λ_ e=>e,λ_ e=>e,λ_ e=>.inl e,λh e=>(by cases e),s6 _ _⟩
 |h::w,q,a,b,R=>by
  have H:=λy=>PA (F:=F) (q:=q) (h:=h) (y:=y);let@⟨i,f,g,k,m,n⟩:=Dt w (dO F q h) (λs hd=>a s<|.tail _ hd) ((H d).1 b) (R.step b<|a h<|.head _);refine⟨i,λy e=>f y<|(H y).1 e,λy e=>g y<|(H y).2.1 e,λy e=>?_,λs hd e=>?_,?_⟩
  ·rcases k y e with z|z
   ·rcases (H y).2.2.1 z with l|l
    ·exact .inl l
    ·exact .inr (g y l)
   ·exact .inr z
  ·rcases cq.mp hd with rfl|hd
   ·exact f s ((H s).2.2.2 e)
   ·exact m s hd e
  ·have c:(dO F q h).1.length+q.2.length=(dO F q h).2.length+q.1.length:=by
    unfold dO;split
    ·rw[c5,c5,eD];lia
    ·exact s6 _ _
   show (w.foldl (dO F)<|dO F q h).1.length+q.2.length=(w.foldl (dO F)<|dO F q h).2.length+q.1.length;lia
structure me(F:List cm)(j:cm)(q:List cm×List cm):Prop where
 i:lZ F j q
 done:∀g∈q.1,g∉q.2->∀f∈F,sr g f=X->f∈q.1
def lZ.len(R:lZ F j q):q.1.length<=F.length+1:=
 BO (H:=j::F) R.ah λd a=>by
  rcases R.sub d a with e|e
  ·rw[e];exact .head _
  ·exact .tail _ e
def me.next{d:cm}(R:me F j (x,l++[d])):me F j ((iB d).foldl (dO F) (x,l))/\((iB d).foldl (dO F) (x,l)).1.length+l.length=((iB d).foldl (dO F) (x,l)).2.length+x.length:=by
 have k:d∈x:=R.i.wG d (dQ _<|.head _);let@⟨m,n,o,p,q,r⟩:=Dt (F:=F) (j:=j) (iB d) (x,l) (λ_ e=>e) k ⟨R.i.ah,R.i.yI,R.i.con,R.i.sub,λy s=>R.i.wG y<|dK _ s⟩;refine⟨⟨m,λg t A f b c=>?_⟩,r⟩;have u:g∈x:=(p g t).resolve_right A;by_cases h:g=d
 ·subst h;exact q f (td.mp c) b
 ·refine n f (R.done g u (λz=>?_) f b c);rcases dt.mp z with z|z
  ·exact A (o g z)
  ·exact h (cA.mp z)
def me.fin(R:me F j (x,[]))(d:cm):d∈x↔nL F j d:=by
 refine⟨R.i.con d,λe=>?_⟩;induction e with
 |self=>exact R.i.yI
 |step _ b c f=>exact R.done _ f (λg=>by cases g) _ b c
def JJ{j d:cm}{S0:Option ak}(t:x.length<5000)(C:l.length<5000):∃a,vv (g7 E F (x,l++[d]) S0)=Z (.bo,g7 E F ((iB d).foldl (dO F) (x,l)) a):=by
 let⟨@a,b⟩:=BX (E:=E) (F:=F) (iB d) (x,l) S0 (by show _+4<_;lia) (by show _+4<_;lia);refine⟨a,?_⟩;unfold vv;refine jy (n:=Y) (Sy:=g7 E F (x,l) S0) (Jj (s:=aN (iB d)) (ct (uO (iX<|mF (h:=aN (l++[d])) (c:=aN l) rfl rfl rfl rfl rfl ?_ rfl) rfl) rfl rfl (P0 d) rfl) rfl) b rfl;show (((l++[d]).map V).getLast?).map (λs=>(ak.im s,ak.lst ((l++[d]).map V).dropLast))=Z (.im<|V d,aN l);rw[eF,List.map_singleton,sV,Fw];rfl
def wA(I:F.length<=900):∃pt,mW [.ay (aU F),.im<|V j]=Z (aC pt,[.ay (aU F),.im<|V j])/\i0 pt/\(∀d,d∈pt↔nL F j d):=by
 have p:me F j ([j],[j]):=⟨⟨ep _ _,.head _,λd b=>by rw[cA.mp b];exact .self,λd b=>.inl<|cA.mp b,λd b=>b⟩,λg r A=>absurd r A⟩;let⟨@SR,t,⟨x,@S0,rfl,R⟩⟩:=pL (h:=GC) (f:=vv) (λH B=>∃x l S0,B=g7 (Z<|.im<|V j) F (x,l) S0/\me F j (x,l)/\l.length<=x.length/\H+x.length=F.length+1+l.length) (λB=>∃x S0,B=g7 (Z<|.im<|V j) F (x,[]) S0/\me F j (x,[])) (λH B ⟨x,l,S0,c,R,u,v⟩=>by
  subst c;have aT:=R.i.len;rcases List.eq_nil_or_concat l with rfl|⟨l,d,rfl⟩
  ·exact⟨ar,_,gR rfl rfl rfl,λe=>(by cases e),λ_=>⟨x,S0,rfl,R⟩⟩
  ·rw[List.concat_eq_append] at *;refine⟨X,_,gR (s:=aN (l++[d])) rfl rfl ?_,λ_=>?_,λe=>by cases e⟩
   ·show Z (!((l++[d]).map V).isEmpty)=Z X;rw[eF,List.isEmpty_eq_false_iff.mpr ↥0];rfl
   ·rw[c5,eD]at u v;let⟨@w,k⟩:=JJ (F:=F) (j:=j) (d:=d) (x:=x) (l:=l) (E:=Z (.im<|V j)) (S0:=S0) (by show _<_;dsimp only at aT;lia) (by dsimp only at aT;lia);let@⟨SY,m⟩:=R.next;have bp:=SY.i.len;generalize (iB d).foldl (dO F) (x,l)=q at k SY m bp;let⟨y,Tj⟩:=q;dsimp only at aT bp m;exact⟨.bo,_,k,.inl rfl,H-1,by omega,y,Tj,w,rfl,SY,by omega,by omega⟩) 1000000 (F.length+1) (g7 (Z<|.im<|V j) F ([j],[j]) Y) ⟨[j],[j],Y,rfl,p,bl _,by show _=F.length+1+1;rfl⟩ ⋯
 have n:=R.i.ah;have o:=R.i.len;let⟨@pt,z,C,D⟩:=NK n (by dsimp only at o ⊢;lia);refine⟨pt,?_,D,λd=>C.mem_iff.trans<|R.fin d⟩;have G:hD [.ay (aU x)]=Z (aN pt):=by
  show i9 ((aU x).map λq=>.tup q.1)=_;have c:((aU x).map λq=>ab.tup q.1)=x.map V:=by unfold aU;rw[gf];rfl
  rw[c];unfold i9;rw[aJ (sH.mpr (w7 n (by dsimp only at o ⊢;lia))),z]
 unfold mW GI;refine dM (B:=g7 (Z<|.im<|V j) F (x,[]) S0) rfl (bL (Sy:=[Z (.ay<|aU F),Z<|.im<|V j,Z<|.ay<|aU [j],Y,Y]) rfl<|bL (Sy:=g7 (Z<|.im<|V j) F ([j],[j]) Y) rfl<|bL t ?_) rfl;exact (eU<|cW (bJ (a4<|cW (bJ rfl rfl) rfl G) rfl) rfl rfl)
end G
namespace L2
open Spec PySem.Calls PyProof.Rows
def Ir{Sz:bA}{l:bk}(s:af)(hd:(s==iq)=ar)(n:bj)(Sx:Array qD)(Tg:Nat)(a:n.data=.dict Sx Tg):
  MeetsIn Sz l (a_.«dict.__len__» ⟨[.ref s],[]⟩) (λ_ Su j=>j.heap.get? s=Z n/\Su (.ok<|.ret<|.int Sx.size j.toks) {j with toks:=j.toks+1}):=
 .of_wp λO Su j ⟨b,e⟩=>by
  show wpAny _ _ (dictSize s >>= _) _ _ j;unfold dictSize;refine aw (aw<|k7 b a<|aW ?_);show wpAny _ _ (a_.Dict.pendingCount s >>= _) _ _ j;refine aw (wpAny_pendingCount_other hd ?_);refine F0 ?_;rw[AM];exact e
section
variable{b:aL}
def H9:eA b (.builtin "len") (λw m D=>∃g SF,w=[aj.ref g]/\m g=Z (.ay SF)/\D (.int SF.length) m):=by
 intro G j A m w SO D E u e;let⟨g,SF,rfl,d,r⟩:=e;let⟨L,rfl,f⟩:=ir u;cases f;let⟨h,hd,w,i,n,Sx,Tg,t,C,k,l,W⟩:=qM E.aY d;have a:j.TypeIs (.ref g) "dict" := ⟨n,t,C.1⟩;have c:Sx.size=SF.length:=by
  have aX:Sx.toList.length=w.length:=by rw[l,a9]
  have bp:=eg.length i;rw[fy]at aX;lia
 have o:(Sx.size:Int)<2^63:=by rw[c];rw[tx]at h;lia
 refine xV kind_len plain_len entry_len (args_len1 _) ?_;unfold a_.«len»;refine aw (m:=oneArg "len" _) (aW ?_);refine aw (m:=callSpecial? (.ref g) (aD.ofString "__len__")) (k6 (name:=aD.ofString "__len__") a G4
  (call_meetsIn G4 a F.entry_dict_len (F.args_dict_len_1 _) (Ir g hd n Sx Tg k) ⟨t,?_⟩));show wpAny _ _ _ _ _ {j with toks:=j.toks+1};refine aw (fB<|aW ?_);refine aw (ml ?_);show wpAny _ _ (if ((Sx.size:Nat):Int)<0 then _ else _) _ _ _;rw[aM (by omega)];show wpAny _ _ (if ((Sx.size:Nat):Int) >= 2^63 then _ else _) _ _ _;rw[aM (by omega)];refine aw (wpAny_mkInt (aW ⟨_,rfl,.int SF.length,m,E.tok _,⟨_,by rw[c]⟩,r⟩))
@[simp] def th:h2:=λJ=>match J with
 |[.ay d]=>Z (.im<|.int d.length)
 |_=>Y
def Rn:hu b (.builtin "len") th:=by
 refine H9.imp λw m D ⟨J,s,d,c,r⟩=>?_;unfold th at c;split at c
 ·cases c;let⟨v,rfl,W,q,i,rfl,t,C,W⟩:=gi d;exact⟨q,i,rfl,t,by rw[<-C.length];exact cb.i r rfl⟩
 ·cases c
end
end L2
namespace L2
open Spec PyProof.Rows
section
open PySem.SeqAt
open PySem.AutoSeq1 (wpAny_loadPart')
open PySem.MeetsSeq PySem.MeetsSeq2 PySem.MeetsSeq3
def Lm(k:af)(S:Array ae)(p:Nat)(f:af)(a:Array ae)(b:Nat)(c:Option af)(aQ:Array (Option ae))(n:¬(!S.isEmpty&&a_.List.listTooLong (S.size+a.size))=X)(o:S.size<=sizeLine)(g:S.size+a.size<=sizeLine+1):
  Meets (a_.«list.extend» ⟨[.ref k,.ref f],[]⟩)
   (λO Su j=>j.heap.get? k=Z {cls:=.type "list",data:=.seq S p}/\j.heap.get? f=Z {cls:=.type "tuple",dict:=c,data:=.seq a b,slots:=aQ}/\
    Su (.ok<|.ret .none) {j with heap:=j.heap.update k (bj.mapSeq λd=>d++a)}):=
 .of_wp λSz l O Su j e=>by
  let⟨q,M,s,Tb,P⟩:=j;let⟨h,i,e⟩:=e;have r:=AutoSeq1.idx_int;have t:=x_;have u:=AutoSeq1.sub_list_list;have v:=AutoSeq1.sub_tuple_list
  wp_walk using wpAny_loadPart' h,wpAny_loadPart' i
  have m:(bj.mapSeq (λd=>d++a) {cls:=ae.type "list",data:=mY.seq S p}).data.pastItsLine=Y:=by
   show mY.pastItsLine (.seq (S++a) _)=Y;unfold mY.pastItsLine;have:(S++a).size<=sizeLine+1:=by rw[A9];exact g
   simp only[A9]at this ⊢;split<;>first|rfl|(exfalso;lia)
  rw[m];exact aW (aW ⟨_,rfl,e⟩)
end
section
variable{b:aL}
@[simp] def tE:ak->List ak->Option (ak×ak):=λh J=>match h,J with
 |.lst w,[.im (.tup SI)]=>if w.length+SI.length<=100000 then Z (.im .aV,.lst<|w++SI) else Y
 |_,_=>Y
def KQ:n6 b "list.extend" tE:=by
 intro G j A m d Sp v SO D E l o q;let⟨h,J,u,an,Su,SM,s,w,ah,c,r⟩:=q;unfold tE at c;split at c
 ·split at c
  ·rename_i x;cases c;let⟨k,SI,rfl,t,C,rfl⟩:=s;let⟨y,I,ap,as,rfl,⟨⟨f,M,rfl,z,e⟩,rfl⟩,⟨rfl,rfl⟩,rfl⟩:=w;have h:gd m k:=⟨_,t,(λ_ c=>by cases c),(λ_ W c=>by cases c)⟩;cases l;let⟨L,rfl,H⟩:=o.one;cases H;let⟨a1,SG,p,u,a2,c⟩:=E.hZ t;let⟨bd,a,g,n,O,P,Q,R⟩:=E.aY f _ z;let⟨be,bi,bm,S⟩:=n;let⟨T,U⟩:=Prod.mk.inj P;cases T;cases U;cases R;have bn:=g.length;have bs:SI.length+M.length<=sizeLine:=l6 (by rw[<-C.length,<-e.length];exact x);have al:SG.toArray.size+a.toArray.size<=sizeLine:=by rw[cO,cO];lia
   have am:¬ (!SG.toArray.isEmpty&&a_.List.listTooLong (SG.toArray.size+a.toArray.size))=X:=by
    rw[Kn al,EG];exact dA
   refine ox F.slot_list_extend ⟨_,c,rfl⟩ F.entry_list_extend (F.args_list_extend_2 _ _)
    (Lm k SG.toArray p f a.toArray Q _ S am (by rw[cO];lia) ⋯) ⟨c,O,?_⟩;refine⟨.aV,_,E.ud (B:=SG++a) t c ↥0 (u.append g) (by rw[c5];lia),rfl,r .aV _ [] [k] ⟨rfl,rfl⟩ ?_ (br.chg (.head _) h (ep _ _) λd i=>by
    rw[nF]at i;exact dK _ i)⟩
   exact⟨k,_,rfl,eT,(C.app e).mono<|cD.kl h,rfl⟩
  ·cases c
 ·cases c
end
end L2
namespace G
open L2
variable{Tf:Option ak}{Ta l:cR}{f g:aG}{b aa:List aG}{x:af}{S:List cR}
def Aw(a:af):aA ak:=((fx<|d5 (a8<|bq 1 G.j8<|aq (ag 0) aB)<|a8<|aF eG (ag 0)<|ag 1))
def zZ(a:af):aA ak:=((aF eG (ag 1)<|ai<|bq 1 G.i1<|aq (ag 0) aB))
def Ei(a:af):bH:=((bt (dy (fG (eJ<|eP<|ai<|bq 1 (G.gQ a)<|aq (ag 0) aB)<|fG (eJ<|eP<|ai<|k5 "tuple"<|ag 1)<|a8<|aF er (ai<|bQ dd<|aq (ag 1) aB)<|ai<|aE<|.int 0) (cF<|aE<|.av ar) en)<|bt (bZ 2<|bq 1 G.f9<|aq (ag 0) aB)<|bt (dy (eJ<|eP<|ai<|bQ hr<|aq (ai<|b1 1 [2] (b4<|ag 1) (a0 0) cP<|G.Aw a) aB) (cF<|aE<|.av ar) en)<|cF<|bQ hr<|aq (ai<|b1 2 [] (jS<|aq (ag 1)<|aq (ai<|iy (ag 1) (iJ<|aE<|.int 1) jc) aB) (gX 2<|dT (a0 0)<|dT (a0 1) gJ) cP<|G.zZ a) aB))
def n3(a:af):c0:=(c_ 2 3 [0,1] (Ei a))
def BP:bH:=((cF<|fx<|d5 (a8<|bq 1 G.j8<|aq (ag 1) aB)<|a8<|aF eG (ag 1)<|ag 0))
def oM:c0:=(c_ 2 2 [0,1] BP)
def Dw:aA ak:=((bq 1 G.j8<|aq (ag 0) aB))
def Cs:bH:=((cF<|fx<|d5 (a8<|k5 "tuple"<|ag 0)<|a8<|bQ hr<|aq (ai<|b1 1 [] (b4<|ag 0) (a0 0) cP G.Dw) aB))
def nB:c0:=(c_ 1 1 [0] Cs)
def xj(a:af):aA ak:=((pv 1 a 1 G.nB<|aq (ag 0) aB))
def AA(a:af):aA ak:=((aF oN (ag 0)<|ag 1))
def Bm(a:af):bH:=((bt (dy (fG (eJ<|eP<|ai<|k5 "tuple"<|ag 0)<|eJ<|eP<|ai<|bQ hr<|aq (ai<|b1 1 [1] (b4<|ag 0) (a0 0) cP<|G.xj a) aB) (cF<|aE<|.av ar) en)<|cF<|bQ hr<|aq (ai<|b1 2 [] (jS<|aq (ag 0)<|aq (ai<|iy (ag 0) (iJ<|aE<|.int 1) jc) aB) (gX 2<|dT (a0 0)<|dT (a0 1) gJ) cP<|G.AA a) aB))
def p0(a:af):c0:=(c_ 2 2 [0,1] (Bm a))
def vH(a:af):aA ak:=((pv 1 a 1 G.j8<|aq (ag 0) aB))
def DO(a:af):aA ak:=((aF oN (ag 0)<|ag 1))
def B9(a:af):bH:=((bt (dy (fG (eJ<|eP<|ai<|k5 "tuple"<|ag 0)<|eJ<|eP<|ai<|bQ hr<|aq (ai<|b1 1 [1] (b4<|ag 0) (a0 0) cP<|G.vH a) aB) (cF<|aE<|.av ar) en)<|cF<|bQ hr<|aq (ai<|b1 2 [] (jS<|aq (ag 0)<|aq (ai<|iy (ag 0) (iJ<|aE<|.int 1) jc) aB) (gX 2<|dT (a0 0)<|dT (a0 1) gJ) cP<|G.DO a) aB))
def pD(a:af):c0:=(c_ 2 2 [0,1] (B9 a))
def Ef(a:af):bH:=((cF<|fx<|d5 (a8<|bq 1 (G.gQ a)<|aq (ag 0) aB)<|d5 (a8<|bq 2 G.oM<|aq (ag 0)<|aq (ag 1) aB)<|d5 (a8<|bq 2 G.oM<|aq (ag 0)<|aq (ag 2) aB)<|d5 (a8<|aF hn (ag 1)<|ag 2)<|a8<|aF eY (ag 2)<|ai<|bq 1 G.i1<|aq (ag 1) aB))
def oG(a:af):c0:=(c_ 3 3 [0,1,2] (Ef a))
def Gl:aA ak:=((et 0))
def F2:aA Bool:=((a8<|aF eY (ag 0)<|ag 1))
def Ds:bH:=((bt (bZ 4<|bq 1 G.f9<|aq (ag 3) aB)<|bt (dy (fG (a8<|aF eG (ag 1)<|ag 4)<|a8<|aF eG (ag 2)<|ag 4) (cF<|aE<|.av ar) en)<|cF<|aF eY (ag 2)<|ai<|bq 2 G.mW<|aq (ai<|bq 1 G.f9<|aq (ai<|b1 1 [4] (b4<|ag 0) (a0 0) G.F2 G.Gl) aB)<|aq (ag 1) aB))
def p2:c0:=(c_ 4 5 [0,1,2,3] Ds)
def lx(a:af):bH:=((bt (dy (fG (eJ<|eP<|ai<|bq 2 (G.n3 a)<|aq (ag 0)<|aq (ag 5) aB)<|fG (a8<|aF hn (ai<|aF bR (ag 5)<|ai<|aE<|.int 0)<|ag 1)<|a8<|aF hn (ai<|aF bR (ag 5)<|ai<|oc<|aE<|.int 1)<|ag 2) (cF<|aE<|.av ar) en)<|ie<|gw hj 4 tE<|aq (ai<|iy (ag 5) (iJ<|aE<|.int 1)<|iJ<|oc<|aE<|.int 1) aB))
def AV(a:af):bH:=((bt (bZ 4<|eV<|aq (ag 1)<|aq (ag 2) aB)<|bt (gj (b4<|ag 3) (a0 5)<|G.lx a)<|cF<|aF er (ai<|bQ th<|aq (ai<|bq 1 G.f9<|aq (ag 4) aB) aB)<|ai<|bQ dd<|aq (ag 4) aB))
def px(a:af):c0:=(c_ 4 6 [0,1,2,3] (AV a))
def BG(a b c:af):bH:=((bt (dy (fG (eJ<|eP<|ai<|bq 3 (G.oG a)<|aq (ag 0)<|aq (ag 1)<|aq (ag 2) aB)<|fG (eJ<|eP<|ai<|bq 2 (G.pD b)<|aq (ag 3)<|aq (ai<|aE<|.fn b) aB)<|eJ<|eP<|ai<|bq 2 (G.p0 c)<|aq (ag 4)<|aq (ai<|aE<|.fn c) aB) (cF<|aE<|.av ar) en)<|cF<|fx<|d5 (a8<|aF er (ai<|bQ dd<|aq (ag 3) aB)<|ai<|bQ dd<|aq (ag 4) aB)<|d5 (a8<|bq 4 G.p2<|aq (ag 0)<|aq (ag 1)<|aq (ag 2)<|aq (ag 3) aB)<|a8<|bq 4 (G.px a)<|aq (ag 0)<|aq (ag 1)<|aq (ag 2)<|aq (ag 4) aB))
def pd(a b c:af):c0:=(c_ 5 5 [0,1,2,3,4] (BG a b c))
theorem FL{SU:Type}{b:List SU->SU->List SU}(e:∀k d,(d∈k->b k d=k)/\(d∉k->b k d=k++[d])):∀(k a:List SU),(k.foldl b a).length<=a.length+k.length
 |[],a=>by rw[vM,hc];exact bl _
 |d::k,a=>by
  rw[jj,dF];refine ew (FL e k<|b a d) ?_;by_cases c:d∈a
  ·rw[(e a d).1 c];lia
  ·rw[(e a d).2 c,c5,eD];lia
theorem Dg{SU:Type}{f:List SU->SU->List SU}(e:∀k d,(d∈k->f k d=k)/\(d∉k->f k d=k++[d])):∀(k a:List SU),a.Nodup->((k.foldl f a).length=a.length+k.length↔(a++k).Nodup)
 |[],a,ah=>by rw[vM,hc,cB];exact⟨λ_=>ah,λ_=>rfl⟩
 |d::k,a,ah=>by
  rw[jj,dF];by_cases b:d∈a
  ·rw[(e a d).1 b];have:=FL e k a;refine⟨λc=>⋯,λc=>?_⟩;exact absurd rfl ((df.mp c).2.2 d b d (.head _))
  ·have g:(a++[d]).Nodup:=df.mpr ⟨ah,ep _ _,λy h j i c=>by rw[cA.mp i]at c;exact b (c ▸ h)⟩;rw[(e a d).2 b];have:=Dg e k (a++[d]) g;rw[c5,eD,bC,pO,s6 1]at this;exact this
theorem o5{SU:Type}{b:List SU->SU->List SU}(e:∀k d,(d∈k->b k d=k)/\(d∉k->b k d=k++[d])):∀(k a:List SU) (d:SU),d∈k.foldl b a↔d∈a\/d∈k
 |[],a,d=>by rw[vM];simp
 |y::k,a,d=>by
  rw[jj,o5 e k (b a y) d];by_cases f:y∈a
  ·rw[(e a y).1 f,cq];refine⟨λc=>c.elim .inl λc=>.inr<|.inr c,λc=>?_⟩;rcases c with c|c|c
   ·exact .inl c
   ·exact .inl (c ▸ f)
   ·exact .inr c
  ·rw[(e a y).2 f,dt,cA,cq,or_assoc]
theorem GO{SU:Type}{b:List SU->SU->List SU}(e:∀k d,(d∈k->b k d=k)/\(d∉k->b k d=k++[d])):∀(k a:List SU),a.Nodup->(k.foldl b a).Nodup
 |[],a,ah=>ah
 |d::k,a,ah=>by
  rw[jj];refine GO e k _ ?_;by_cases f:d∈a
  ·rw[(e a d).1 f];exact ah
  ·rw[(e a d).2 f];exact df.mpr ⟨ah,ep _ _,λy g i h c=>by rw[cA.mp h]at c;exact f (c ▸ g)⟩
def m8(k:List aG)(d:aG):(d∈k->eH k d=k)/\(d∉k->eH k d=k++[d]):=⟨λe=>aJ e,λe=>aM e⟩
theorem uq{SU:Type}{Su:SU->SU->Bool}(fD:∀d y a,Su d y=X->Su y a=X->Su d a=X):∀k:List SU,((k.zip<|k.drop 1).all λq=>Su q.1 q.2)=X↔k.Pairwise λg f=>Su g f=X
 |[]=>⟨λ_=>.nil,λ_=>rfl⟩
 |[d]=>⟨λ_=>ep _ _,λ_=>rfl⟩
 |d::y::u=>by
  have c:=uq fD (y::u);show (Su d y&&((y::u).zip<|(y::u).drop 1).all λq=>Su q.1 q.2)=X↔_;rw[cX,c];refine⟨λ⟨t,C⟩=>hQ.mpr ⟨λa b=>?_,C⟩,λe=>⟨(hQ.mp e).1 y (.head _),(hQ.mp e).2⟩⟩;rcases cq.mp b with rfl|b
  ·exact t
  ·exact fD d y a t ((hQ.mp C).1 a b)
def Gu(d y a:aG)(t:bx (V d) (V y)=X)(C:bx (V y) (V a)=X):bx (V d) (V a)=X:=pn (p:=6) rfl rfl t C
def Nq(d y a:cR)(t:bx (aP d) (aP y)=X)(C:bx (aP y) (aP a)=X):bx (aP d) (aP a)=X:=pn (p:=6) (show eB 6 (aP d) (aP y)=X from qj d y) (show eB 6 (aP y) (aP a)=X from qj y a) t C
structure ng(aa:List aG)(S:List cR):Prop where
 dD:S.length<=100
 ne:∀l∈S,l≠[]
 len:∀l∈S,l.length<=290
 c1:∀l∈S,∀h∈l,h∈aa
def oi(g f:aG)(l:cR):Prop:=(∃H,l=g::(H++[f]))
def NH:(∀l∈S,l.length<=290)->(S.flatMap eN).length<=290*S.length:=by
 induction S with
 |nil=>intro W;exact bl _
 |cons l S a=>
  intro e;have:=a λl b=>e l (.tail _ b);have t:=e l (.head _);have C:(eN l).length<=l.length:=by unfold eN;rw[z9,gZ];lia
  rw[n5,c5,dF];lia
structure Jt(g f:aG)(S:List cR):Prop where
 ch:∀l∈S,gT l=X
 up:lE S
 ll:∀l∈S,oi g f l
 ah:(S.flatMap eN).Nodup
 na:g∉S.flatMap eN
 nb:f∉S.flatMap eN
structure uE(aa:List aG)(g f:aG)(b:List aG)(S:List cR):Prop where
 up:iE b
 na:g∉b
 nb:f∉b
 q_:¬ cQ (aa.filter λh=>!decide (h∈b)) g f
 w:Jt g f S
 n:S.length=b.length
def q6(h:aG):j8 [.im (V h)]=Z (.im<|.av X,[.im (V h)]):=rfl
def AD{B:a7}{M:aA ak}{a:Int}(c:M B=Z (aI a,B))(b:0<=a)(t:a<=30):h5 fR fR (ai<|aE<|.int 0) (ai M) (ai<|aE<|.int 30) B=Z (.im<|.av X,B):=by
 have d:fR (aI 0) (aI a)=Z (.im<|.av X):=by
  show Z (ak.im<|.av<|decide (0<=a))=_;rw[dw b]
 have e:fR (aI a) (aI 30)=Z (.im<|.av X):=by
  show Z (ak.im<|.av<|decide (a<=30))=_;rw[dw t]
 exact Ny (f:=X) (e:=X) (iX (M:=aE (.int 0)) rfl) (iX c) rfl rfl d (iX (M:=aE (.int 30)) rfl) rfl rfl e rfl
structure j7(aa:List aG):Prop where
 up:iE aa
 c1:∀h∈aa,0<=h.1/\h.1<=30/\0<=h.2/\h.2<=30
 len:aa.length<=200
def Rg{h:aG}(e:0<=h.1/\h.1<=30/\0<=h.2/\h.2<=30):iW [.im (V h)]=Z (.im<|.av X,[.im (V h)]):=by
 unfold iW Cf;exact dM (B:=[Z (.im<|V h)]) rfl (eU<|j3<|gG (cz<|ct (P:=[.aQ 0]) rfl rfl rfl (q6 h) rfl)<|gG (cz<|AD (a:=h.1) rfl e.1 e.2.1)<|cz<|AD (a:=h.2) rfl e.2.2.1 e.2.2.2) rfl
def vA{SU:Type}(a:SU->ab)(k:List SU):gL (k.map a) (gy (k.map a) (Z 1) Y)=(k.zip<|k.drop 1).map λq=>.tup [a q.1,a q.2]:=by
 rw[wL,show (1:Int)=((1:Nat):Int) from rfl,J3,ER]
def Q_(N:j7 aa):q0 x [aC aa]=Z (.im<|.av X,[aC aa]):=by
 have d:=N.len;have u:r0 x [aC aa,.im<|.fn x]=Z (.im<|.av X,[aC aa,.im<|.fn x]):=by
  have a:b1 1 [1] (b4<|ag 0) (a0 0) cP (G.xU x) [Z (aC aa),Z<|.im<|.fn x]=Z (.lst<|aa.map λ_=>.av X,[Z (aC aa),Z<|.im<|.fn x]):=by
   refine e2 (w:=aa.map V) (n:=Y) (Sy:=[Z (aC aa),Z<|.im<|.fn x]) rfl (fA V (λ_=>.av X) _ (λh b=>?_) ⋯) rfl;refine⟨[Z (.im<|V h),Z<|.im<|.fn x],_,[Z (.im<|V h),Z<|.im<|.fn x],rfl,rfl,?_,rfl⟩;unfold xU;show (if x=x then _ else _)=_;rw[aJ rfl];exact ct (P:=[.aQ 0]) rfl rfl rfl (Rg<|N.c1 h b) rfl
  have e:(aa.zip<|aa.drop 1).length<=1000:=by rw[oJ];lia
  have c:b1 2 [] (jS<|aq (ag 0)<|aq (ai<|iy (ag 0) (iJ<|aE<|.int 1) jc) aB) (gX 2<|dT (a0 0)<|dT (a0 1) gJ) cP (G.AK x) [Z (aC aa),Z<|.im<|.fn x]=Z (.lst<|(aa.zip<|aa.drop 1).map λq=>.av<|bx (V q.1)<|V q.2,[Z (aC aa),Z<|.im<|.fn x]):=by
   refine e2 (w:=(aa.zip<|aa.drop 1).map λq=>.tup [V q.1,V q.2]) (n:=Y) (Sy:=[Z (aC aa),Z<|.im<|.fn x]) ?_ (fA (λq:aG×aG=>.tup [V q.1,V q.2]) (λq=>.av<|bx (V q.1)<|V q.2) _ (λq W=>?_) ⋯) rfl
   ·rw[<-vA];exact vc (bJ rfl<|bJ (a4<|r9 rfl rfl rfl rfl rfl) rfl) rfl
   ·exact⟨[Z (.im<|V q.1),Z<|.im<|V q.2],_,[Z (.im<|V q.1),Z<|.im<|V q.2],rfl,rfl,dc rfl rfl rfl rfl rfl,rfl⟩
  unfold r0 DD;exact dM (B:=[Z (aC aa),Z<|.im<|.fn x]) rfl (bL (e3 (fl (Sy:=[Z (aC aa),Z<|.im<|.fn x]) rfl<|i2<|gR (a4<|cW (bJ (a4 a) rfl) rfl<|mP aa) rfl rfl) rfl) (eU (cW (bJ (a4 c) rfl) rfl ((rg _ _).trans (by rw[(uq Gu aa).mpr N.up]))))) rfl
 unfold q0 E0;exact dM (B:=[Z (aC aa)]) rfl (eU<|ct (P:=[.aQ 0,.cf<|.im<|.fn x]) rfl rfl rfl u rfl) rfl
def yT{F:List aG}{j d:aG}:nL F j d↔cQ F j d:=by
 constructor
 ·intro e;induction e with
  |self=>exact .self
  |step _ t C a=>exact .step a t (td.mp C)
 ·intro e;induction e with
  |self=>exact .self
  |step _ t C a=>exact .step a t (td.mpr C)
def z7(N:j7 aa)(a:g∈aa)(b:∀d∈aa,cQ aa g d):gQ x [aC aa]=Z (.im<|.av X,[aC aa]):=by
 have n:=N.len;have ah:=N.up.ah;let⟨j,u,rfl⟩:=Ez (xW a);let⟨pt,c,f,h⟩:=wA (F:=j::u) (j:=j) ⋯;have i:=u7 ah ⋯;have k:pt.Perm (j::u):=(wu (iE.ah f) ah).mpr λd=>(h d).trans (yT.trans ⟨λe=>cQ.c1 (.head _) e,λe=>(cQ.sym a<|b j<|.head _).trans<|b d e⟩);have aX:dd [aC pt]=Z (aI ((j::u).length:Int)):=(mz pt).trans (by rw[k.length_eq]);have l:a8 (aF er (ai<|bQ dd<|aq (ag 0) aB)<|ai<|aE<|.int 0) [Z (aC (j::u))]=Z (ar,[Z (aC (j::u))]):=cz (dc (a4<|cW (bJ rfl rfl) rfl<|mz (j::u)) rfl rfl rfl ((rJ _ _).trans (by rw[dm (by rw[dF];lia)])));have m:bR (aC (j::u)) (aI 0)=Z (.im<|V j):=by
  show (dH ((j::u).map V) 0).map ak.im=_;rw[rF (jX 0) (s:=V j) rfl];rfl
 unfold gQ EA;exact dM (B:=[Z (aC (j::u))]) rfl (bL (e3 (fl (i2<|gR (a4<|ct (P:=[.aQ 0]) rfl rfl rfl (Q_ N) rfl) rfl rfl) l) rfl) (eU (dc (a4<|cW (bJ (a4<|ct (P:=[.cf (.ay<|aU (j::u)),.cf<|.im<|V j]) (bJ (a4<|ct (P:=[.aQ 0]) rfl rfl rfl i rfl)<|bJ (a4<|ed m) rfl) rfl rfl c rfl) rfl) rfl aX) (a4<|cW (bJ rfl rfl) rfl<|mz (j::u)) rfl rfl ((rJ _ _).trans (by rw[dw rfl]))))) rfl
def yX(N:j7 aa)(a:gQ x [aC aa]=Z (.im<|.av X,[aC aa]))(b:l≠[])(i:l.length<=290)(c:∀h∈l,h∈aa):n3 x [aC aa,.im<|aP l]=Z (.im<|.av<|gT l,[aC aa,.im<|aP l]):=by
 have d:=u7 N.up.ah (by have:=N.len;lia);have j:=r5.mpr b;have S8:a8 (aF er (ai<|bQ dd<|aq (ag 1) aB)<|ai<|aE<|.int 0) [Z (aC aa),Z<|.im<|aP l,Y]=Z (ar,[Z (aC aa),Z<|.im<|aP l,Y]):=cz (dc (a4<|cW (bJ rfl rfl) rfl<|mz l) rfl rfl rfl ((rJ _ _).trans (by rw[dm ⋯])));have e:b1 1 [2] (b4<|ag 1) (a0 0) cP (G.Aw x) [Z (aC aa),Z<|.im<|aP l,Z<|.ay<|aU aa]=Z (.lst<|l.map λ_=>.av X,[Z (aC aa),Z<|.im<|aP l,Z<|.ay<|aU aa]):=by
  refine e2 (w:=l.map V) (n:=Y) (Sy:=[Z (aC aa),Z<|.im<|aP l,Z<|.ay<|aU aa]) rfl (fA V (λ_=>.av X) _ (λh f=>?_) ⋯) rfl;exact⟨[Z (.im<|V h),Z<|.ay<|aU aa],_,[Z (.im<|V h),Z<|.ay<|aU aa],rfl,rfl,j3 (gG (cz<|ct (P:=[.aQ 0]) rfl rfl rfl (q6 h) rfl) (cz (ed ((qY aa h).trans (by rw[dw (c h f)]))))),rfl⟩
 have k:(l.zip<|l.drop 1).length<=1000:=by rw[oJ];lia
 have g:b1 2 [] (jS<|aq (ag 1)<|aq (ai<|iy (ag 1) (iJ<|aE<|.int 1) jc) aB) (gX 2<|dT (a0 0)<|dT (a0 1) gJ) cP (G.zZ x) [Z (aC aa),Z<|.im<|aP l,Z<|.ay<|aU aa]=Z (.lst<|(l.zip<|l.drop 1).map λq=>.av<|decide (q.2∈cV q.1),[Z (aC aa),Z<|.im<|aP l,Z<|.ay<|aU aa]):=by
  refine e2 (w:=(l.zip<|l.drop 1).map λq=>.tup [V q.1,V q.2]) (n:=Y) (Sy:=[Z (aC aa),Z<|.im<|aP l,Z<|.ay<|aU aa]) ?_ (fA (λq:aG×aG=>.tup [V q.1,V q.2]) (λq=>.av<|decide (q.2∈cV q.1)) _ (λq W=>?_) ⋯) rfl
  ·rw[<-vA];exact vc (bJ rfl<|bJ (a4<|r9 rfl rfl rfl rfl rfl) rfl) rfl
  ·refine⟨[Z (.im<|V q.1),Z<|.im<|V q.2],_,[Z (.im<|V q.1),Z<|.im<|V q.2],rfl,rfl,?_,rfl⟩;exact dc rfl (a4<|ct (P:=[.aQ 0]) rfl rfl rfl (wb q.1) rfl) rfl rfl (Km (cV q.1) q.2)
 unfold n3 Ei;exact dM (B:=[Z (aC aa),Z<|.im<|aP l,Z<|.ay<|aU aa]) rfl (bL (e3 (fl (i2<|gR (a4<|ct (P:=[.aQ 0]) rfl rfl rfl a rfl) rfl rfl)<|fl (Sy:=[Z (aC aa),Z<|.im<|aP l,Y]) rfl S8) rfl)<|bL (jm (ct (P:=[.aQ 0]) rfl rfl rfl d rfl) (fH rfl) rfl)<|bL (e3 (i2<|gR (a4<|cW (bJ (a4 e) rfl) rfl<|mP l) rfl rfl) rfl)<|eU<|cW (bJ (a4 g) rfl) rfl<|rg _ _) rfl
def LY(d:b.length<=1000):pD x [aC b,.im<|.fn x]=Z (.im<|.av<|(b.zip<|b.drop 1).all λq=>bx (V q.1)<|V q.2,[aC b,.im<|.fn x]):=by
 have a:b1 1 [1] (b4<|ag 0) (a0 0) cP (G.vH x) [Z (aC b),Z<|.im<|.fn x]=Z (.lst<|b.map λ_=>.av X,[Z (aC b),Z<|.im<|.fn x]):=by
  refine e2 (w:=b.map V) (n:=Y) (Sy:=[Z (aC b),Z<|.im<|.fn x]) rfl (fA V (λ_=>.av X) _ (λh W=>?_) ⋯) rfl;refine⟨[Z (.im<|V h),Z<|.im<|.fn x],_,[Z (.im<|V h),Z<|.im<|.fn x],rfl,rfl,?_,rfl⟩;unfold vH;show (if x=x then _ else _)=_;rw[aJ rfl];exact ct (P:=[.aQ 0]) rfl rfl rfl (q6 h) rfl
 have e:(b.zip<|b.drop 1).length<=1000:=by rw[oJ];lia
 have c:b1 2 [] (jS<|aq (ag 0)<|aq (ai<|iy (ag 0) (iJ<|aE<|.int 1) jc) aB) (gX 2<|dT (a0 0)<|dT (a0 1) gJ) cP (G.DO x) [Z (aC b),Z<|.im<|.fn x]=Z (.lst<|(b.zip<|b.drop 1).map λq=>.av<|bx (V q.1)<|V q.2,[Z (aC b),Z<|.im<|.fn x]):=by
  refine e2 (w:=(b.zip<|b.drop 1).map λq=>.tup [V q.1,V q.2]) (n:=Y) (Sy:=[Z (aC b),Z<|.im<|.fn x]) ?_ (fA (λq:aG×aG=>.tup [V q.1,V q.2]) (λq=>.av<|bx (V q.1)<|V q.2) _ (λq W=>?_) ⋯) rfl
  ·rw[<-vA];exact vc (bJ rfl<|bJ (a4<|r9 rfl rfl rfl rfl rfl) rfl) rfl
  ·exact⟨[Z (.im<|V q.1),Z<|.im<|V q.2],_,[Z (.im<|V q.1),Z<|.im<|V q.2],rfl,rfl,dc rfl rfl rfl rfl rfl,rfl⟩
 unfold pD B9;exact dM (B:=[Z (aC b),Z<|.im<|.fn x]) rfl (bL (e3 (fl (Sy:=[Z (aC b),Z<|.im<|.fn x]) rfl<|i2<|gR (a4<|cW (bJ (a4 a) rfl) rfl<|mP b) rfl rfl) rfl)<|eU<|cW (bJ (a4 c) rfl) rfl<|rg _ _) rfl
def JP(b:l.length<=1000):nB [.im (aP l)]=Z (.im<|.av X,[.im (aP l)]):=by
 have a:b1 1 [] (b4<|ag 0) (a0 0) cP G.Dw [Z (.im<|aP l)]=Z (.lst<|l.map λ_=>.av X,[Z (.im<|aP l)]):=by
  refine e2 (w:=l.map V) (n:=Y) (Sy:=[Z (.im<|aP l)]) rfl (fA V (λ_=>.av X) _ (λh W=>?_) ⋯) rfl;exact⟨[Z (.im<|V h)],_,[Z (.im<|V h)],rfl,rfl,ct (P:=[.aQ 0]) rfl rfl rfl (q6 h) rfl,rfl⟩
 unfold nB Cs;exact dM (B:=[Z (.im<|aP l)]) rfl (eU<|j3<|gG (Sy:=[Z (.im<|aP l)]) rfl<|cz<|cW (bJ (a4 a) rfl) rfl<|mP l) rfl
def Rj(e:S.length<=1000)(a:∀l∈S,l.length<=1000):p0 x [.im (.tup<|S.map aP),.im<|.fn x]=Z (.im<|.av<|(S.zip<|S.drop 1).all λq=>bx (aP q.1)<|aP q.2,[.im (.tup<|S.map aP),.im<|.fn x]):=by
 have b:b1 1 [1] (b4<|ag 0) (a0 0) cP (G.xj x) [Z (.im<|.tup<|S.map aP),Z<|.im<|.fn x]=Z (.lst<|S.map λ_=>.av X,[Z (.im<|.tup<|S.map aP),Z<|.im<|.fn x]):=by
  refine e2 (w:=S.map aP) (n:=Y) (Sy:=[Z (.im<|.tup<|S.map aP),Z<|.im<|.fn x]) rfl (fA aP (λ_=>.av X) _ (λl c=>?_) ⋯) rfl;refine⟨[Z (.im<|aP l),Z<|.im<|.fn x],_,[Z (.im<|aP l),Z<|.im<|.fn x],rfl,rfl,?_,rfl⟩;unfold xj;show (if x=x then _ else _)=_;rw[aJ rfl];exact ct (P:=[.aQ 0]) rfl rfl rfl (JP<|a l c) rfl
 have f:(S.zip<|S.drop 1).length<=1000:=by rw[oJ];lia
 have d:b1 2 [] (jS<|aq (ag 0)<|aq (ai<|iy (ag 0) (iJ<|aE<|.int 1) jc) aB) (gX 2<|dT (a0 0)<|dT (a0 1) gJ) cP (G.AA x) [Z (.im<|.tup<|S.map aP),Z<|.im<|.fn x]=Z (.lst<|(S.zip<|S.drop 1).map λq=>.av<|bx (aP q.1)<|aP q.2,[Z (.im<|.tup<|S.map aP),Z<|.im<|.fn x]):=by
  refine e2 (w:=(S.zip<|S.drop 1).map λq=>.tup [aP q.1,aP q.2]) (n:=Y) (Sy:=[Z (.im<|.tup<|S.map aP),Z<|.im<|.fn x]) ?_ (fA (λq:cR×cR=>.tup [aP q.1,aP q.2]) (λq=>.av<|bx (aP q.1)<|aP q.2) _ (λq W=>?_) ⋯) rfl
  ·rw[<-vA];exact vc (bJ rfl<|bJ (a4<|r9 rfl rfl rfl rfl rfl) rfl) rfl
  ·have lt:oN (.im<|aP q.1) (.im<|aP q.2)=Z (.im<|.av<|bx (aP q.1)<|aP q.2):=aJ (show eB 6 (aP q.1) (aP q.2)=X from qj q.1 q.2);exact⟨[Z (.im<|aP q.1),Z<|.im<|aP q.2],_,[Z (.im<|aP q.1),Z<|.im<|aP q.2],rfl,rfl,ed lt,rfl⟩
 unfold p0 Bm;exact dM (B:=[Z (.im<|.tup<|S.map aP),Z<|.im<|.fn x]) rfl (bL (e3 (fl (Sy:=[Z (.im<|.tup<|S.map aP),Z<|.im<|.fn x]) rfl<|i2<|gR (a4<|cW (bJ (a4 b) rfl) rfl<|mP S) rfl rfl) rfl)<|eU<|cW (bJ (a4 d) rfl) rfl<|rg _ _) rfl
def FC(e:g∈aa):oM [aC aa,.im<|V g]=Z (.im<|.av X,[aC aa,.im<|V g]):=by
 unfold oM BP;exact dM (B:=[Z (aC aa),Z<|.im<|V g]) rfl (eU (j3 (gG (cz<|ct (P:=[.aQ 1]) rfl rfl rfl (q6 g) rfl) (cz (ed ((rh aa g).trans (by rw[dw e]))))))) rfl
def J_(a:gQ x [aC aa]=Z (.im<|.av X,[aC aa]))(b:g∈aa)(c:f∈aa)(d:g≠f)(E:f∉cV g):oG x [aC aa,.im<|V g,.im<|V f]=Z (.im<|.av X,[aC aa,.im<|V g,.im<|V f]):=by
 unfold oG Ef;exact dM (B:=[Z (aC aa),Z<|.im<|V g,Z<|.im<|V f]) rfl (eU (j3 (gG (cz<|ct (P:=[.aQ 0]) rfl rfl rfl a rfl) (gG (cz<|ct (P:=[.aQ 0,.aQ 1]) rfl rfl rfl (FC b) rfl) (gG (cz<|ct (P:=[.aQ 0,.aQ 2]) rfl rfl rfl (FC c) rfl) (gG (cz (ed ((nQ g f).trans (by rw[dm d];rfl)))) (cz (dc rfl (a4<|ct (P:=[.aQ 1]) rfl rfl rfl (wb g) rfl) rfl rfl ((Cw (cV g) f).trans (by rw[dm E];rfl)))))))))) rfl
def LB(c:b.length<10000):f9 [aC b]=Z (.ay<|aU<|b.foldl eH [],[aC b]):=by
 let⟨n,a⟩:=q2 (Z<|aC b) b [] Y (by show 0+_<_;lia);unfold f9 rp;exact dM (B:=[Z (aC b),Z .dB,n]) rfl (bL (Sy:=[Z (aC b),Z<|.ay [],Y]) rfl<|bL (jy (n:=Y) rfl a rfl) rfl) rfl
def MM(c:b.length<90000):f9 [aN b]=Z (.ay<|aU<|b.foldl eH [],[aN b]):=by
 let⟨n,a⟩:=q2 (Z .dB) b [] Y (by show 0+_<_;lia);unfold f9 rp;exact dM (B:=[Z (aN b),Z .dB,n]) rfl (bL (Sy:=[Z (aN b),Z<|.ay [],Y]) rfl<|bL (jy (n:=Z (0,aN b)) (Sy:=[Z .dB,Z<|.ay [],Y]) rfl a rfl) rfl) rfl
def Ao(SH:List aG)(h:aG):eY (.im<|V h) (.ay<|aU SH)=Z (.im<|.av<|!decide (h∈SH)):=by
 show (eK (.tup<|c9 h)<|.ay<|aU SH).map (λu=>ak.im<|.av<|!u)=_;rw[wQ,aJ<|nN h,wX];rfl
def Rd(ah:aa.Nodup)(u:aa.length<=200)(v:b.length<=1000):∃I:Bool,p2 [aC aa,.im<|V g,.im<|V f,aC b]=Z (.im<|.av I,[aC aa,.im<|V g,.im<|V f,aC b])/\(I=X↔g∉b/\f∉b/\¬ cQ (aa.filter λh=>!decide (h∈b)) g f):=by
 have o:∀h,h∈b.foldl eH []↔h∈b:=λh=>(o5 m8 b [] h).trans ⟨λe=>e.resolve_left ni,.inr⟩;have d:∀h,decide (h∈b.foldl eH [])=decide (h∈b):=λh=>pb.mpr (o h);have p:=LB (b:=b) ⋯;generalize b.foldl eH []=SH at p o d;have c:a8 (aF eG (ag 1)<|ag 4) [Z (aC aa),Z<|.im<|V g,Z<|.im<|V f,Z<|aC b,Z<|.ay<|aU SH]=Z (decide (g∈b),[Z (aC aa),Z<|.im<|V g,Z<|.im<|V f,Z<|aC b,Z<|.ay<|aU SH]):=cz (ed ((qY SH g).trans (by rw[d])));have i:a8 (aF eG (ag 2)<|ag 4) [Z (aC aa),Z<|.im<|V g,Z<|.im<|V f,Z<|aC b,Z<|.ay<|aU SH]=Z (decide (f∈b),[Z (aC aa),Z<|.im<|V g,Z<|.im<|V f,Z<|aC b,Z<|.ay<|aU SH]):=cz (ed ((qY SH f).trans (by rw[d])));have m:bZ 4 (bq 1 G.f9<|aq (ag 3) aB) [Z (aC aa),Z<|.im<|V g,Z<|.im<|V f,Z<|aC b,Y]=Z (.bo,[Z (aC aa),Z<|.im<|V g,Z<|.im<|V f,Z<|aC b,Z<|.ay<|aU SH]):=jm (ct (P:=[.aQ 3]) rfl rfl rfl p rfl) (fH rfl) rfl;unfold p2 Ds;by_cases k:g∈b
 ·rw[dw k]at c;exact⟨ar,dM (B:=[Z (aC aa),Z<|.im<|V g,Z<|.im<|V f,Z<|aC b,Z<|.ay<|aU SH]) rfl (bL m<|la<|iD (u2 c) rfl) rfl,(λa=>by cases a),λa=>absurd k a.1⟩
 rw[dm k]at c;by_cases l:f∈b
 ·rw[dw l]at i;exact⟨ar,dM (B:=[Z (aC aa),Z<|.im<|V g,Z<|.im<|V f,Z<|aC b,Z<|.ay<|aU SH]) rfl (bL m<|la<|iD (fl c i) rfl) rfl,(λa=>by cases a),λa=>absurd l a.2.1⟩
 rw[dm l]at i;have q:b1 1 [4] (b4<|ag 0) (a0 0) G.F2 G.Gl [Z (aC aa),Z<|.im<|V g,Z<|.im<|V f,Z<|aC b,Z<|.ay<|aU SH]=Z (aN<|aa.filter λh=>!decide (h∈b),[Z (aC aa),Z<|.im<|V g,Z<|.im<|V f,Z<|aC b,Z<|.ay<|aU SH]):=by
  refine e2 (w:=aa.map V) (n:=Y) (Sy:=[Z (aC aa),Z<|.im<|V g,Z<|.im<|V f,Z<|aC b,Z<|.ay<|aU SH]) rfl (j5 V (λh=>!decide (h∈b)) V _ [] (λh W=>?_) (by rw[hc];lia)) rfl;exact⟨[Z (.im<|V h),Z<|.ay<|aU SH],[Z (.im<|V h),Z<|.ay<|aU SH],rfl,cz (ed ((Ao SH h).trans (by rw[d]))),λ_=>rfl,λ_=>⟨[Z (.im<|V h),Z<|.ay<|aU SH],rfl,rfl⟩⟩
 have qJ:=pR (λh=>!decide (h∈b)) aa;have r:=Oh (F:=aa.filter λh=>!decide (h∈b)) (ah.filter _) ⋯;let⟨pt,s,W,t⟩:=wA (F:=aa.filter λh=>!decide (h∈b)) (j:=g) ⋯;refine⟨!decide (f∈pt),dM (B:=[Z (aC aa),Z<|.im<|V g,Z<|.im<|V f,Z<|aC b,Z<|.ay<|aU SH]) rfl (bL m<|bL (e3 (fl c i) rfl)<|eU<|dc rfl (a4<|ct (P:=[.cf (.ay<|aU<|aa.filter λh=>!decide (h∈b)),.aQ 1]) (bJ (a4<|ct (P:=[.cf (aN<|aa.filter λh=>!decide (h∈b))]) (bJ (a4 q) rfl) rfl rfl r rfl) rfl) rfl rfl s rfl) rfl rfl<|Fo pt f) rfl,?_⟩;rw[jo,k8,t,yT];exact⟨λa=>⟨k,l,a⟩,λa=>a.2.2⟩
def KP{w SI:List ab}(e:w.length+SI.length<=100000):tE (.lst w) [.im (.tup SI)]=Z (.im .aV,.lst<|w++SI):=aJ e
def NF{H:cR}(N:j7 aa)(e:gQ x [aC aa]=Z (.im<|.av X,[aC aa]))(a:(g::(H++[f])).length<=290)(i:∀h∈g::(H++[f]),h∈aa)(j:gT (g::(H++[f]))=X)(n:Ta.length<=50000):lx x [Z (aC aa),Z<|.im<|V g,Z<|.im<|V f,Tf,Z<|aN Ta,Z<|.im<|aP (g::(H++[f]))]=Z (.bo,[Z (aC aa),Z<|.im<|V g,Z<|.im<|V f,Tf,Z<|aN<|Ta++H,Z<|.im<|aP (g::(H++[f]))]):=by
 have c:=yX N e (tk _ _) a i;rw[j]at c;have o:H.length<=290:=by rw[dF,c5]at a;lia
 have k:bR (.im<|aP (g::(H++[f]))) (aI<|-1)=Z (.im<|V f):=by
  show (dH ((g::(H++[f])).map V)<|-1).map ak.im=_;rw[sv (s:=V f) (by rw[<-pA,eF];exact sV)];rfl
 have l:bR (.im<|aP (g::(H++[f]))) (aI 0)=Z (.im<|V g):=by
  show (dH ((g::(H++[f])).map V) 0).map ak.im=_;rw[rF (jX 0) (s:=V g) rfl];rfl
 have b:∀d:aG,hn (.im<|V d) (.im<|V d)=Z (.im<|.av ar):=λd=>(nQ d d).trans (by rw[dw rfl];rfl);have m:oR (.im<|aP (g::(H++[f]))) (Z 1) (Z<|-1)=Z (aC H):=by
  show Z (ak.im<|.tup<|gy ((g::(H++[f])).map V) (Z 1)<|Z<|-1)=_;rw[wL,RF]
 unfold lx;refine bL (e3 (fl (i2<|gR (a4<|ct (P:=[.aQ 0,.aQ 5]) rfl rfl rfl c rfl) rfl rfl)<|fl (cz<|dc (a4<|ed l) rfl rfl rfl<|b g)<|cz<|dc (a4<|dc rfl (a4 rfl) rfl rfl k) rfl rfl rfl<|b f) rfl) (l3 (mF (h:=aN Ta) rfl rfl (bJ (a4<|r9 rfl rfl rfl rfl m) rfl) rfl rfl (KP (by rw[a9,a9];lia)) ?_));show _=[Z (aC aa),Z<|.im<|V g,Z<|.im<|V f,Tf,Z<|ak.lst<|(Ta++H).map V,Z<|.im<|aP (g::(H++[f]))];rw[eF];rfl
def Qz(N:j7 aa)(m:gQ x [aC aa]=Z (.im<|.av X,[aC aa]))(n:g≠f)(j:l≠[])(o:l.length<=290)(p:∀h∈l,h∈aa)(q:¬ (gT l=X/\oi g f l)):lx x [Z (aC aa),Z<|.im<|V g,Z<|.im<|V f,Tf,Z<|aN Ta,Z<|.im<|aP l]=Z (.es<|.im<|.av ar,[Z (aC aa),Z<|.im<|V g,Z<|.im<|V f,Tf,Z<|aN Ta,Z<|.im<|aP l]):=by
 have c:=yX N m j o p;unfold lx;cases i:gT l with
 |false=>
  rw[i]at c;exact la (iD (u2<|Jl<|gR (a4<|ct (P:=[.aQ 0,.aQ 5]) rfl rfl rfl c rfl) rfl rfl) rfl)
 |true=>
  rw[i]at c;obtain⟨d,y,a,r,t⟩:∃d y,bR (.im<|aP l) (aI 0)=Z (.im<|V d)/\bR (.im<|aP l) (aI<|-1)=Z (.im<|V y)/\(d≠g\/y≠f):=by
   let⟨d,u,rfl⟩:=Ez j;have a:bR (.im<|aP (d::u)) (aI 0)=Z (.im<|V d):=by
    show (dH ((d::u).map V) 0).map ak.im=_;rw[rF (jX 0) (s:=V d) rfl];rfl
   by_cases k:u=[]
   ·subst k;refine⟨d,d,a,rfl,?_⟩;by_cases e:d=g
    ·exact .inr λb=>n (e.symm.trans b)
    ·exact .inl e
   ·let⟨H,y,rfl⟩:=BV k;refine⟨d,y,a,?_,?_⟩
    ·show (dH ((d::(H++[y])).map V)<|-1).map ak.im=_;rw[sv (s:=V y) (by rw[<-pA,eF];exact sV)];rfl
    ·by_cases e:d=g
     ·exact .inr λb=>q ⟨i,H,by rw[e,b]⟩
     ·exact .inl e
  refine la (iD (Sy:=[Z (aC aa),Z<|.im<|V g,Z<|.im<|V f,Tf,Z<|aN Ta,Z<|.im<|aP l]) (fl (i2<|gR (a4<|ct (P:=[.aQ 0,.aQ 5]) rfl rfl rfl c rfl) rfl rfl) ?_) rfl);by_cases e:d=g
  ·exact fl (cz (dc (a4<|ed a) rfl rfl rfl ((nQ d g).trans (by rw[dw e];rfl)))) (cz (dc (a4<|dc rfl (a4 rfl) rfl rfl r) rfl rfl rfl ((nQ y f).trans (by rw[dm (t.resolve_left λb=>b e)];rfl))))
  ·exact u2 (cz (dc (a4<|ed a) rfl rfl rfl ((nQ d g).trans (by rw[dm e];rfl))))
theorem GH{x:af}{aa:List aG}{g f:aG}{Tf:Option ak}(N:j7 aa)(d:gQ x [aC aa]=Z (.im<|.av X,[aC aa]))(i:g≠f):∀(S:List cR) (Ta:cR) (S_:Option ak),ng aa S->Ta.length+290*S.length<=40000->
  (∃b,d3 (a0 5) (lx x) (S.map aP) [Z (aC aa),Z<|.im<|V g,Z<|.im<|V f,Tf,Z<|aN Ta,S_]=Z (.bo,[Z (aC aa),Z<|.im<|V g,Z<|.im<|V f,Tf,Z<|aN<|Ta++S.flatMap eN,b])/\∀l∈S,gT l=X/\oi g f l)\/
  ∃SR,d3 (a0 5) (lx x) (S.map aP) [Z (aC aa),Z<|.im<|V g,Z<|.im<|V f,Tf,Z<|aN Ta,S_]=Z (.es<|.im<|.av ar,SR)/\SR.take 4=[Z (aC aa),Z<|.im<|V g,Z<|.im<|V f,Tf]/\¬ ∀l∈S,gT l=X/\oi g f l
 |[],Ta,S_,_,_=>.inl ⟨S_,by rw[List.flatMap_nil,cB];rfl,(λl hw=>nomatch hw)⟩
 |l::S,Ta,S_,m,k=>by
  have T:ng aa S:=⟨by have:=m.dD;rw[dF]at this;lia,λv a=>m.ne v<|.tail _ a,λv a=>m.len v<|.tail _ a,λv a=>m.c1 v<|.tail _ a⟩;have hw:=m.len l (.head _);rw[dF]at k;rw[cE,d3];show (∃b,(lx x [Z (aC aa),Z<|.im<|V g,Z<|.im<|V f,Tf,Z<|aN Ta,Z<|.im<|aP l]).bind _=_/\_)\/∃SR,(lx x [Z (aC aa),Z<|.im<|V g,Z<|.im<|V f,Tf,Z<|aN Ta,Z<|.im<|aP l]).bind _=_/\_;by_cases e:gT l=X/\oi g f l
  ·let⟨j,H,rfl⟩:=e;have n:H.length<=290:=by rw[dF,c5]at hw;lia
   rw[NF N d hw (m.c1 _<|.head _) j ⋯];rcases GH (aa:=aa) (Tf:=Tf) N d i S (Ta++H) (Z<|.im<|aP (g::(H++[f]))) T (by rw[c5];lia) with ⟨b,c,M⟩|⟨SR,c,s,M⟩
   ·refine .inl ⟨b,?_,λl hw=>?_⟩
    ·rw[n5,FD,<-bC];exact c
    ·rcases cq.mp hw with rfl|hw
     ·exact⟨j,H,rfl⟩
     ·exact M l hw
   ·exact .inr ⟨SR,c,s,λh=>M λl hw=>h l<|.tail _ hw⟩
  ·rw[Qz N d i (m.ne l<|.head _) hw (m.c1 l<|.head _) e];exact .inr ⟨_,rfl,rfl,λh=>e<|h l<|.head _⟩
def HN(N:j7 aa)(h:gQ x [aC aa]=Z (.im<|.av X,[aC aa]))(i:g≠f)(m:ng aa S):∃I:Bool,px x [aC aa,.im<|V g,.im<|V f,.im<|.tup<|S.map aP]=Z (.im<|.av I,[aC aa,.im<|V g,.im<|V f,.im<|.tup<|S.map aP])/\(I=X↔(∀l∈S,gT l=X/\oi g f l)/\([g,f]++S.flatMap eN).Nodup):=by
 have dD:=m.dD;have aT:=NH m.len;unfold px AV;rcases GH (Tf:=Z (.im<|.tup<|S.map aP)) N h i S [g,f] Y m (by show 2+_<=_;lia) with ⟨S_,d,ll⟩|⟨SR,d,s,ll⟩
 ·generalize j:[g,f]++S.flatMap eN=a at d;have p:a.length<=40000:=by rw[<-j,c5];show 2+_<=_;lia
  have k:=MM (b:=a) ⋯;have aX:th [.ay (aU<|a.foldl eH [])]=Z (aI ((a.foldl eH []).length:Int)):=by
   show Z (ak.im<|.int ((aU<|a.foldl eH []).length:Int))=_;unfold aU;rw[a9]
  have bp:dd [aN a]=Z (aI (a.length:Int)):=by
   show Z (ak.im<|.int ((a.map V).length:Int))=_;rw[a9]
  have iff:=Dg m8 a [] jb;rw[hc,zp,nF]at iff;refine⟨decide (((a.foldl eH []).length:Int)=(a.length:Int)),dM (B:=[Z (aC aa),Z<|.im<|V g,Z<|.im<|V f,Z<|.im<|.tup<|S.map aP,Z<|aN a,S_]) rfl (bL (Sy:=[Z (aC aa),Z<|.im<|V g,Z<|.im<|V f,Z<|.im<|.tup<|S.map aP,Z<|aN [g,f],Y]) rfl<|bL (jy (n:=Y) (w:=S.map aP) (Sy:=[Z (aC aa),Z<|.im<|V g,Z<|.im<|V f,Z<|.im<|.tup<|S.map aP,Z<|aN [g,f],Y]) rfl d rfl)<|eU<|dc (a4<|cW (bJ (a4<|ct (P:=[.aQ 4]) rfl rfl rfl k rfl) rfl) rfl aX) (a4<|cW (bJ rfl rfl) rfl bp) rfl rfl<|rJ _ _) rfl,?_⟩;rw[hO];exact⟨λc=>⟨ll,iff.mp ⋯⟩,λc=>by have:=iff.mpr c.2;lia⟩
 ·obtain⟨e,o⟩:∃e,SR=Z (aC aa)::Z (.im<|V g)::Z (.im<|V f)::Z (.im<|.tup<|S.map aP)::e:=by
   match SR,s with
   |x0::q::r::t::u,s=>simp only[G1,ue,zM,and_true]at s;let⟨rfl,rfl,rfl,rfl⟩:=s;exact⟨u,rfl⟩
   |[],s=>cases s
   |[_],s=>cases s
   |[_,_],s=>cases s
   |[_,_,_],s=>cases s
  subst o;exact⟨ar,dM (B:=Z (aC aa)::Z (.im<|V g)::Z (.im<|V f)::Z (.im<|.tup<|S.map aP)::e) rfl (bL (Sy:=[Z (aC aa),Z<|.im<|V g,Z<|.im<|V f,Z<|.im<|.tup<|S.map aP,Z<|aN [g,f],Y]) rfl<|la<|jy (n:=Y) (w:=S.map aP) (Sy:=[Z (aC aa),Z<|.im<|V g,Z<|.im<|V f,Z<|.im<|.tup<|S.map aP,Z<|aN [g,f],Y]) rfl d rfl) rfl,(λc=>by cases c),λc=>absurd c.1 ll⟩
def Of{k:List aG}(b:g≠f):([g,f]++k).Nodup↔k.Nodup/\g∉k/\f∉k:=by
 show (g::f::k).Nodup↔_;rw[gV,gV,cq,not_or];exact⟨λ⟨t,C,a⟩=>⟨a,t.2,C⟩,λ⟨t,C,a⟩=>⟨⟨b,C⟩,a,t⟩⟩
def L5{k bF j:af}(N:j7 aa)(t:gQ k [aC aa]=Z (.im<|.av X,[aC aa]))(J:g∈aa)(L:f∈aa)(o:g≠f)(E:f∉cV g)(u:b.length<=1000)(m:ng aa S):
  ∃I:Bool,pd k bF j [aC aa,.im<|V g,.im<|V f,aC b,.im<|.tup<|S.map aP]=Z (.im<|.av I,[aC aa,.im<|V g,.im<|V f,aC b,.im<|.tup<|S.map aP])/\(I=X↔uE aa g f b S):=by
 have dD:=m.dD;have M:=J_ t J L o E;have v:=LY (x:=bF) u;have y:=Rj (x:=j) (S:=S) ⋯ λl c=>by have:=m.len l c;lia
 have r:=uq Gu b;have s:=uq Nq S;generalize ((b.zip<|b.drop 1).all λq=>bx (V q.1)<|V q.2)=z at v r;generalize ((S.zip<|S.drop 1).all λq=>bx (aP q.1)<|aP q.2)=t3 at y s;let⟨C,O,D⟩:=Rd (g:=g) (f:=f) (b:=b) N.up.ah N.len u;let⟨F,Q,T⟩:=HN N t o m;let B:a7:=[Z (aC aa),Z<|.im<|V g,Z<|.im<|V f,Z<|aC b,Z<|.im<|.tup<|S.map aP]
 have S6:eJ (eP<|ai<|bq 3 (G.oG k)<|aq (ag 0)<|aq (ag 1)<|aq (ag 2) aB) B=Z (ar,B):=i2 (gR (a4<|ct (P:=[.aQ 0,.aQ 1,.aQ 2]) rfl rfl rfl M rfl) rfl rfl);have S8:eJ (eP<|ai<|bq 2 (G.pD bF)<|aq (ag 3)<|aq (ai<|aE<|.fn bF) aB) B=Z (!z,B):=tY (gR (a4<|ct (P:=[.aQ 3,.cf<|.im<|.fn bF]) rfl rfl rfl v rfl) rfl rfl);have h:eJ (eP<|ai<|bq 2 (G.p0 j)<|aq (ag 4)<|aq (ai<|aE<|.fn j) aB) B=Z (!t3,B):=tY (gR (a4<|ct (P:=[.aQ 4,.cf<|.im<|.fn j]) rfl rfl rfl y rfl) rfl rfl);have aX:dd [.im (.tup<|S.map aP)]=Z (aI (S.length:Int)):=by
  show Z (ak.im<|.int ((S.map aP).length:Int))=_;rw[a9]
 have d:a8 (aF er (ai<|bQ dd<|aq (ag 3) aB)<|ai<|bQ dd<|aq (ag 4) aB) B=Z (decide (S.length=b.length),B):=cz (dc (a4<|cW (bJ rfl rfl) rfl<|mz b) (a4<|cW (bJ rfl rfl) rfl aX) rfl rfl ((rJ _ _).trans (by rw[pb.mpr (show (b.length:Int)=(S.length:Int)↔S.length=b.length from ⟨λe=>⋯,λe=>⋯⟩)])));have H:a8 (bq 4 G.p2<|aq (ag 0)<|aq (ag 1)<|aq (ag 2)<|aq (ag 3) aB) B=Z (C,B):=cz (ct (P:=[.aQ 0,.aQ 1,.aQ 2,.aQ 3]) rfl rfl rfl O rfl);have U:a8 (bq 4 (G.px k)<|aq (ag 0)<|aq (ag 1)<|aq (ag 2)<|aq (ag 4) aB) B=Z (F,B):=cz (ct (P:=[.aQ 0,.aQ 1,.aQ 2,.aQ 4]) rfl rfl rfl Q rfl);unfold pd BG;cases z with
 |false=>exact⟨ar,dM (B:=B) rfl (la<|iD (fl S6<|u2 S8) rfl) rfl,(λa=>by cases a),λR=>absurd (r.mpr R.up) dA⟩
 |true=>
 cases t3 with
 |false=>exact⟨ar,dM (B:=B) rfl (la<|iD (fl S6<|fl S8 h) rfl) rfl,(λa=>by cases a),λR=>absurd (s.mpr R.w.up) dA⟩
 |true=>
 by_cases i:S.length=b.length
 ·rw[dw i]at d;cases C with
  |false=>exact⟨ar,dM (B:=B) rfl (bL (e3 (fl S6<|fl S8 h) rfl)<|eU<|j3<|gG d<|o_ H) rfl,(λa=>by cases a),λR=>absurd (D.mpr ⟨R.na,R.nb,R.q_⟩) dA⟩
  |true=>
   refine⟨F,dM (B:=B) rfl (bL (e3 (fl S6<|fl S8 h) rfl)<|eU<|j3<|gG d<|gG H U) rfl,?_⟩;rw[T,Of o];let⟨A,al,q_⟩:=D.mp rfl;exact⟨λa=>⟨r.mp rfl,A,al,q_,⟨λl c=>(a.1 l c).1,s.mp rfl,λl c=>(a.1 l c).2,a.2.1,a.2.2.1,a.2.2.2⟩,i⟩,λR=>⟨λl c=>⟨R.w.ch l c,R.w.ll l c⟩,R.w.ah,R.w.na,R.w.nb⟩⟩
 ·rw[dm i]at d;exact⟨ar,dM (B:=B) rfl (bL (e3 (fl S6<|fl S8 h) rfl)<|eU<|j3<|o_ d) rfl,(λa=>by cases a),λR=>absurd R.n i⟩
end G
namespace L2
open Spec PyProof.Rows PySem.W
section
variable{So:Type}[DecidableEq So]
def hJ(w a:List (So×af×ae)):List (So×af×ae):=(a.foldl (λb d=>kr b d.1 d.2.1 d.2.2) w)
def Il(w b:List (So×af×ae))(a:Nat)(d:So×af×ae)(e:b[a]?=Z d):hJ w (b.take<|a+1)=kr (hJ w<|b.take a) d.1 d.2.1 d.2.2:=by
 simp[hJ,List.take_add_one,e,Gx]
def Lh(w:List (So×af×ae))(o:So)(g:af)(v:ae):(kr w o g v).length<=w.length+1:=by
 unfold kr;split
 ·rw[a9];lia
 ·rw[c5,eD];exact bl _
def KC(w b:List (So×af×ae)):(hJ w b).length<=w.length+b.length:=by
 induction b generalizing w with
 |nil=>exact bl _
 |cons a dh c=>
  have d:=c (kr w a.1 a.2.1 a.2.2);have e:=Lh w a.1 a.2.1 a.2.2;show (hJ (kr w a.1 a.2.1 a.2.2) dh).length<=_;rw[dF];lia
def K0(a c:List (So×af×ae))(d:((a++c).map (·.1)).Nodup):hJ a c=a++c:=by
 induction c generalizing a with
 |nil=>simp[hJ]
 |cons b dh e=>
  have f:kO a b.1=Y:=by
   refine tg λi q g=>?_;rw[eF,cE,df]at d;exact d.2.2 b.1 (cH.mpr ⟨_,j1 g,rfl⟩) b.1 kF rfl
  have:hJ a (b::dh)=hJ (a++[b]) dh:=by
   show hJ (kr a b.1 b.2.1 b.2.2) dh=_;rw[uT f]
  rw[this,e (a++[b]) ⇑d];simp
end
section
variable{Sz:bA}{l:bk}{So:Type}[DecidableEq So]{J:HeapKind Sz l So}{O:bw}{Sv:ae->ao->Prop}{j:ao}
variable{s:af}
def Pq{g:af}{w:List (So×af×ae)}{o:So}{v:ae}{D:Unit->ao->Prop}(z:J.room O)(t:J.is j.heap o g)(A:j.heap.DictOfH J s w)(u:∀Sq,Sq.DictOfH J s (kr w o g v)->a5.SameBut s j.heap Sq->D () {j with heap:=Sq})(C:w.length<=sizeLine):
  wpAny (aS Sz l) O (sD s (.ref g) (J.hash o) v) D Sv j:=by
 let⟨n,Sx,Tg,b,x,hd,f,r,e⟩:=A;unfold sD;try with_reducible refine fB ?_
 refine aw (wpAny_dictFind_heap z t b hd f r e ?_ ?_)
 ·intro h;have B:o∉w.map (·.1):=not_mem_keys_of_get h;refine aw (h7 (wpAny_updateDictKeys (hz:=by have c:=wy f;lia) b hd<|u _ ⟨_,_,Tg+1,l2 _ b<|xy<|uN hd _,
   x.mapDictKeys _,uN hd _,?_,?_,?_⟩<|jB ..))
  ·rw[uT (tg h)];simp[f,nV]
  ·rw[uT (tg h)];intro d a;rcases dt.mp a with a|a
   ·exact J.keeps (r d a) b hd (jB ..)
   ·simp only[cA]at a;subst a;exact J.keeps t b hd (jB ..)
  ·rw[uT (tg h)];rw[eF,df];refine⟨e,by simp,?_⟩;intro d a y m;simp only[cE,D8,cA]at m;subst m;exact λc=>B (c ▸ a)
 ·intro i q p;refine aw (h7<|aw<|wpAny_updateDict b hd<|wpAny_point<|u _ ⟨_,_,Tg,l2 _ b<|xy<|FN hd _,
   x.mapDict _,FN hd _,?_,?_,?_⟩<|jB ..)
  ·rw[xN (yd e p)];have:=modify_map_putAt (nV J) (λc:qD=>{c with val:=v}) o v (λ_ W=>rfl) e p;rw[<-f]at this;let⟨k⟩:=Sx;simpa using this
  ·rw[xN (yd e p)];intro d a;let⟨y,m,rfl⟩:=cH.mp a;unfold putAt;split<;>exact J.keeps (r y m) b hd (jB ..)
  ·rw[xN (yd e p)];rw[keys_map_putAt];exact e
def OD{w:List (So×af×ae)}{Sx:Array qD}(f:Sx.toList=w.map (nV J))(b:(w.map λd=>J.hash d.1).Nodup)(c:qD)(j:c∈Sx):¬ (Sx.filter (·.hash==c.hash)).size>1:=by
 have g:(Sx.filter (·.hash==c.hash)).size=((Sx.toList.filter (·.hash==c.hash)).map (·.hash)).length:=by
  rw[a9,<-Array.toList_filter,fy]
 have h:(Sx.toList.map (·.hash))=w.map λd=>J.hash d.1:=by
  rw[f,gf];rfl
 have ah:((Sx.toList.filter (·.hash==c.hash)).map (·.hash)).Nodup:=Iq ((List.filter_sublist).map _) (h ▸ b);have a:∀e∈(Sx.toList.filter (·.hash==c.hash)).map (·.hash),e=c.hash:=λe b=>by
  let⟨d,i,rfl⟩:=cH.mp b;exact beq_iff_eq.mp (gv.mp i).2
 rw[g];generalize (Sx.toList.filter (·.hash==c.hash)).map (·.hash)=k at ah a
 match k,ah,a with
 |[],_,_=>simp
 |[_],_,_=>simp
 |d::y::u,ah,a=>
  have t:=(gV.mp ah).1;rw[a d (.head _),<-a y (.tail _<|.head _)]at t;exact absurd (.head _) t
def Qe{B:String}{n:af}{SF b:List (So × af × ae)}{D:Unit -> ao -> Prop}(an:J.room O)(I:s ≠ n)(ap:(n==iq)=ar)(hd:j.heap.DictOfH J s SF)(as:j.heap.DictOfH J n b)(a1:(b.map λd => J.hash d.1).Nodup)(a2 : ∀d ∈ b, ∀(L:Bool -> ao -> Prop),L ar j -> wpAny (aS Sz l) O (a_.Dict.quietEq<|.ref d.2.1) L Sv j)(u : ∀Sq,Sq.DictOfH J s (hJ SF b) -> a5.SameBut s j.heap Sq -> D () {j with heap:=Sq})(bd:SF.length+b.length <= sizeLine):
    wpAny (aS Sz l) O (a_.Dict.mergeDict B s n) D Sv j:=by
  let⟨H,be,bi,p,bm,m,bn,ev,ex⟩:=id hd;let⟨M,g,fd,q,fn,o,r,N,Q⟩:=id as;unfold a_.Dict.mergeDict;rw [aM ⇑I];unfold a_.Dict.showsAll;rw [aM (by rw [ap]; exact dA)];refine aw (aW ?_);refine aw (k7 q o ?_);have y:b.length=g.size:=by rw [wy r]
  have R:wpAny (aS Sz l) O (do
      let bs <-dictEpoch n
      let k <-dictEntries n
      forIn [:k.size] PUnit.unit λa (_:PUnit) => (do
          let bv <-dictEntries n
          match bv[a]? with
            |some c => do
              holding [c.key,c.val] (sD s c.key c.hash c.val)
              let ca <-dictEpoch n
              if (ca != bs)=X then do
                  (unsupported (toString B ++ toString ":source-changed-during-callback"):dR PUnit)
                  pure (ForInStep.yield PUnit.unit)
                else pure (ForInStep.yield PUnit.unit)
            |_ => do
              (unsupported "internal:dict-merge" : dR PUnit)
              pure (ForInStep.yield PUnit.unit):dR (ForInStep PUnit))
      pure ()) D Sv j:=by
    refine aw (qE q o ?_);refine aw (k7 q o ?_);refine aw ?_;rw [Ox];simp only [Std.Legacy.Range.size,D_,B7,Nat.div_one];refine nz _
      (λdh W Sr => ∃Sq a,Sr = {j with heap:=Sq} /\ dh=range' a (g.size-a) /\ a <= g.size /\ Sq.DictOfH J s (hJ SF<|b.take a) /\ Sq.get? n=Z M /\ a5.SameBut s j.heap Sq)
      _ ?_ ?_ _ _ ⟨j.heap,0,rfl,by simp,gI _,by simpa [hJ] using hd,q,a5.SameBut.refl _ _⟩
    · rintro d dh f Sr ⟨Sq,a,rfl,i,U,v,z,w⟩
      have S:a<g.size:=by
        rcases jf a g.size with e|e
        · exact e
        · rw [Nat.sub_eq_zero_of_le e]at i; simp at i
      obtain⟨rfl,cd⟩:d=a /\ dh=range' (a+1) (g.size-(a+1)):=by
        have c:g.size-a=(g.size-(a+1))+1:=⋯
        rw [c,By]at i;injection i with t C;exact ⟨t,C⟩
      refine aw (k7 z o ?_);obtain⟨h,A⟩ : ∃h,b[d]? = Z h:=⟨b[d]'(by rw [y]; exact S),e4 _⟩;rw [entry_at r d,A];show wpAny _ _ (holding [(nV J h).key,(nV J h).val] (sD s (.ref h.2.1) (J.hash h.1) h.2.2) >>= _) _ _ _;have ce:(hJ SF<|b.take d).length <= sizeLine:=by
        have fr:=KC SF (b.take d);have f0:(b.take d).length <= b.length:=by rw [hy]; lia
        lia
      have ch:J.is Sq h.1 h.2.1:=J.keeps (N h<|j1 A) p m w;refine aw (fB<|Pq (j := {j with heap:=Sq}) an ch v (λT ci al => ?_) ce);have am:T.get? n=Z M:=(al.2 n<|fP I).trans z;refine aw (qE am o ?_);rw [aM ↥0];exact aW ⟨T,d+1,rfl,cd,S,by rw [Il SF b d h A]; exact ci,am,w.trans al⟩
    · rintro f Sr ⟨Sq,a,rfl,i,U,v,z,w⟩
      have x:a=g.size:=by
        rcases jf a g.size with e|e
        · have c:g.size-a=(g.size-(a+1))+1:=⋯
          rw [c,By]at i; exact nomatch i
        · exact Ge U e
      refine aW (u Sq ?_ w);rw [x, <-y,ru]at v; exact v
  dsimp only;split
  · refine aw (k7 p m ?_)
    split
    · rename_i cl
      have co:SF=[]:=by
        have E:be = #[]:=Am.mp cl;have:=wy bn;rw [E]at this;exact yu.mp ⇑(this.symm)
      subst co;have cr:wpAny (aS Sz l) O (a_.Dict.entriesForEmpty B n) (λSx Sr => Sx=g /\ Sr=j) Sv j:=by
        unfold a_.Dict.entriesForEmpty;refine aw (k7 q o ?_);refine aw ?_;rw [<-xq];refine nz _ (λdh W Sr => Sr=j /\ ∀c ∈ dh,c ∈ g) _ ?_ ?_ _ _ ⟨rfl,λc F => AY.mp F⟩
        · rintro c dh f Sr ⟨rfl,i⟩
          have x:=i c kF;have cs:c ∈ b.map (nV J):=r ▸ AY.mpr x;let⟨d,G,rfl⟩:=cH.mp cs;refine aw (a2 d G _ ?_);rw [aJ (by rfl),aM<|OD r a1 _ x];exact aW ⟨rfl,λc F => i c<|kB _ F⟩
        · rintro f Sr ⟨rfl,_⟩
          exact aW ⟨rfl,rfl⟩
      refine aw (hl cr (λSx Sr db => ?_) λ_ W c => c);let⟨rfl,rfl⟩:=db;rw [K0 [] b ⇑Q,nF]at u;split
      · have ds:Sx.size <= sizeLine+1:=by
          simp only [hc,zp]at bd;lia
        refine aw (wpAny_updateDictKeysTo p m (aW<|u _ ⟨_,_,bi+1,l2 _ p<|xy<|uN m _,bm.mapDictKeys _,
          uN m _,r,λd G => J.keeps (N d G) p m<|jB .., Q⟩<|jB ..) ds)
      · rename_i dL
        have E:Sx = #[]:=Am.mp ⇑dL;have eq:b=[]:=yu.mp (by rw [y,E]; rfl);subst eq;exact aW (u _ hd<|a5.SameBut.refl _ _)
    · exact R
  · exact R
end
section
variable{b:aL}
def d2(a:Int):Int:=(hashInt a)
def lp(h:Int×Int):Int:=(yJ (a_.Tuple.tupleHashOf [d2 h.1,d2 h.2]))
def qg:List Int->Nat->Bool
 |[],_=>X
 |e::I,H=>!H.testBit (e%6473).toNat&&qg I (H ||| (1 <<< (e%6473).toNat))
theorem Fe:∀{k:List Int}{H:Nat},qg k H=X->∀e∈k,H.testBit (e%6473).toNat=ar
 |d::k,H,ok,e,a=>by
  rw[qg,cX,jo]at ok;rcases cq.mp a with rfl|a
  ·exact ok.1
  ·have:=Fe ok.2 e a;rw[BW,Bool.or_eq_false_iff]at this;exact this.1
theorem Bg:∀{k:List Int}{H:Nat},qg k H=X->k.Nodup
 |[],_,_=>.nil
 |d::k,H,ok=>by
  rw[qg,cX,jo]at ok;refine gV.mpr ⟨λa=>?_,Bg ok.2⟩;have:=Fe ok.2 d a;rw[BW,Nat.one_shiftLeft,Nat.testBit_two_pow_self,Bool.or_true]at this;cases this
def zu:List (Int×Int):=((range 31).flatMap λu=>(range 31).map λ(h:Nat)=>(Int.ofNat u,Int.ofNat h))
def KX:(zu.map lp).Nodup:=Bg (H:=0) (by decide +kernel)
variable{h:Int×Int}
def A1(e:0<=h.1/\h.1<=30/\0<=h.2/\h.2<=30):h∈zu:=by
 unfold zu;rw[zA];refine⟨h.1.toNat,gr.mpr ⋯,cH.mpr ⟨h.2.toNat,gr.mpr ⋯,?_⟩⟩;exact zB (yE e.1) (yE e.2.2.1)
def Nk{s:Int×Int}(e:0<=h.1/\h.1<=30/\0<=h.2/\h.2<=30)(hd:0<=s.1/\s.1<=30/\0<=s.2/\s.2<=30)(c:lp h=lp s):h=s:=by
 let⟨a,U,b⟩:=nt.mp (A1 e);let⟨i,f,d⟩:=nt.mp (A1 hd);have:=(xJ (h₀:=by rw[a9];exact U) (h₁:=by rw[a9];exact f) KX).mp (by rw[sC,sC,b,d,c]);subst this;rw[<-b,<-d]
theorem CS:∀{SH:List (Int×Int)},SH.Nodup->(∀h∈SH,0<=h.1/\h.1<=30/\0<=h.2/\h.2<=30)->(SH.map lp).Nodup
 |[],_,_=>.nil
 |h::SH,b,a=>by
  let⟨t,C⟩:=gV.mp b;refine gV.mpr ⟨λd=>?_,CS C λs hd=>a s<|.tail _ hd⟩;let⟨s,hd,c⟩:=cH.mp d;rw[Nk (a s<|.tail _ hd) (a h<|.head _) c]at hd;exact t hd
def kD(h:Int×Int):List ab:=([.int h.1,.int h.2])
def HH{R:bA}{l:bk}(h:Int×Int):(gu R l).hash (kD h)=lp h:=rfl
theorem Gq{SU Tx TP:Type}(x:SU->TP):∀(k:List (SU×Tx)),(k.map λd=>x d.1)=(k.map (·.1)).map x
 |[]=>rfl
 |d::k=>by rw[cE,cE,cE,Gq x k]
theorem Ey{R:bA}{l:bk}:∀(k:List (Int×Int)),(k.map kD).map (gu R l).hash=k.map lp
 |[]=>rfl
 |h::k=>by rw[cE,cE,cE,HH,Ey k]
theorem Gg{m:ax}:∀{b:List (List ab×af×ae)}{a:List (List ab×aj)},eM m a b->∀{SF:List (List ab×aj)}{w:List (List ab×af×ae)},eM m SF w->
  eM m (a.foldl (λc q=>fk c q.1 q.2) SF) (hJ w b)
 |_,_,.nil,_,_,u=>u
 |_,_,.cons (l₁:=a) (a:=q) (b:=d) u I,SF,w,ha=>by
  let⟨o,f,L⟩:=d;let⟨e,y⟩:=q;let⟨rfl,h,i⟩:=u;exact Gg I (eM.put ha e h i)
theorem Eh:∀(a SF:List (List ab×aj)),(a.foldl (λb q=>fk b q.1 q.2) SF).length<=SF.length+a.length
 |[],SF=>bl _
 |q::u,SF=>by
  have t:=Eh u (fk SF q.1 q.2);have C:(fk SF q.1 q.2).length<=SF.length+1:=by
   unfold fk;split
   ·rw[a9];lia
   ·rw[c5];exact bl _
  rw[jj,dF];lia
def Qu(Q:b.A.units+20<b6):uS b "dict.update" (λd Sp m D=>∃(s n:af) (SF a:List (List ab×aj)) (f:List (Int×Int)),d=.ref s/\Sp=[.ref n]/\s≠n/\m s=Z (.ay SF)/\
  m n=Z (.ay a)/\a.map (·.1)=f.map kD/\f.Nodup/\(∀h∈f,0<=h.1/\h.1<=30/\0<=h.2/\h.2<=30)/\SF.length<=1000/\a.length<=1000/\D .aV (upd m s<|.ay<|a.foldl (λR q=>fk R q.1 q.2) SF)):=by
 intro G j A m d Sp v SO D E S T e;let⟨s,n,SF,a,f,rfl,rfl,U,hd,al,am,an,ap,aX,bp,r⟩:=e;cases S;let⟨L,rfl,as⟩:=T.one;cases as;let⟨B,a1,w,i,H⟩:=qM E.aY hd;let⟨cl,a2,k,o,I⟩:=qM E.aY al;have J:j.TypeIs (.ref s) "dict" := by
  let⟨n,Sx,Tg,t,C,W⟩:=H;exact⟨n,t,C.1⟩
 have x:j.TypeIs (.ref n) "dict" := by
  let⟨n,Sx,Tg,t,C,W⟩:=I;exact⟨n,t,C.1⟩
 have y:∀{SF:List (List ab×aj)}{w:List (List ab×af×ae)},eM m SF w->w.map (·.1)=SF.map (·.1):=λ{SF w} u=>by
  induction u with
  |nil=>rfl
  |cons u _ bd=>rw[cE,cE,bd,u.1]
 have co:w.length=SF.length:=by
  have:=congrArg List.length (y i)
  rwa [a9,a9]at this
 have cr:k.length=a.length:=by
  have:=congrArg List.length (y o)
  rwa [a9,a9]at this
 have cs:2000<=sizeLine:=by decide
 have be:=o.is;have bi:(k.map λd=>(gu b.prog b.w).hash d.1).Nodup:=by
  have c:(k.map λd=>(gu b.prog b.w).hash d.1)=f.map lp:=by
   rw[Gq (gu b.prog b.w).hash k,(y o).trans am,Ey]
  rw[c];exact CS an ap
 have bm:∀d∈k,j.TypeIs (.ref d.2.1) "tuple" := λd z=>by
  let⟨W,g,SI,c,t,C⟩:=be d z;cases c;let⟨W,SG,W,bn,bs,bv,W⟩:=E.aY d.2.1 _ t;exact⟨bn,bs,(Prod.mk.inj bv).1⟩
 refine iH zJ J PySem.F.entry_dict_update ?_ (PySem.F.args_dict_update_2 _ _);unfold a_.«dict.update»;refine aw ?_;unfold a_.Dict.selfAndRest;refine aw (yz J ?_);show wpAny _ _ (pure (s,[ae.ref n])) _ _ j;refine aW ?_;show wpAny _ _ (a_.Dict.updateFrom "dict.update" s (.ref n) [] .none) _ _ j;unfold a_.Dict.updateFrom;refine aw (wpAny_typeOf x ?_);rw[aM ∅];refine aw ?_;unfold a_.Dict.merge;refine aw ?_;unfold a_.Dict.readDirectly;refine aw (q1 x isSubtype_dict_dict ?_);simp only[tC,iL,gD];refine aw (mK x PySem.F.slot_dict_iter.lookup<|aW ?_);simp only[ka,hx];refine aw (aW ?_);refine Qe (ov Q) U a2 H I bi (λd z db p=>?_) (λSq ca cv=>?_) ⋯
 ·unfold a_.Dict.quietEq;exact aw (mK (bm d z) PySem.F.slot_tuple_eq.lookup<|aW p)
 show wpAny _ _ (a_.Dict.addKeywords s [] >>= _) _ _ _;refine aw (aW<|aW ⟨.none,rfl,.aV,_,?_,rfl,r⟩);let⟨p,Sx,Tg,M,cd,ce,ch,W,ci⟩:=ca;have lk:=Eh a SF;refine te (j:=j) E (by rw[hd];exact True.intro) cv ⟨p,M⟩ ⟨⋯,a1,_,eM.keeps (Gg o i) λds SI P=>?_,p,Sx,Tg,M,cd,ce,ch,ci⟩;rw[c2 (zw P hd<|λB=>nomatch B)];exact P
end
end L2
namespace L2
open Spec PyProof.Rows
def cells?:List (List ab)->Option (List<|Int×Int)
 |[]=>Z []
 |[.int a,.int i]::u=>(cells? u).map λj=>(a,i)::j
 |_=>Y
theorem GL:∀{d:List (List ab)}{SH:List (Int×Int)},cells? d=Z SH->d=SH.map kD
 |[],SH,e=>by cases e;rfl
 |o::u,SH,e=>by
  unfold cells? at e;split at e
  ·rename_i r;cases r
  ·rename_i r;cases r;let⟨j,t,C⟩:=cJ.mp e;cases C;rw[GL t];rfl
  ·cases e
def qL(f g:List (List ab×ab)):List (List ab×ab):=(f.foldl (λa q=>fv a q.1 q.2) g)
def tl:ak->List ak->Option (ak×ak):=(λh J=>match h,J with
 |.ay g,[.ay f]=>(cells? (f.map (·.1))).bind λSH=>if SH.Nodup/\(∀h∈SH,0<=h.1/\h.1<=30/\0<=h.2/\h.2<=30)/\g.length<=1000/\f.length<=1000 then Z (.im .aV,.ay<|qL f g) else Y
 |_,_=>Y)
theorem zW{m:ax}:∀{f:List (List ab×ab)}{H:List (List ab×aj)},d_ m f H->∀{g:List (List ab×ab)}{p:List (List ab×aj)},d_ m g p->d_ m (qL f g) (H.foldl (λa q=>fk a q.1 q.2) p)
 |_,_,.nil,_,_,e=>e
 |_,_,.cons (a:=q) (b:=r) u I,g,p,e=>by
  let⟨o,s⟩:=q;let⟨b,v⟩:=r;let⟨c,l⟩:=u;dsimp only at c l;subst c;exact zW I (d_.put l e)
theorem Cr{m:ax}:∀{f:List (List ab×ab)}{H:List (List ab×aj)},d_ m f H->H.map (·.1)=f.map (·.1)
 |_,_,.nil=>rfl
 |_,_,.cons u I=>by rw[cE,cE,Cr I,u.1]
section
variable{b:aL}
def IM(o:b.A.units+20<b6):n6 b "dict.update" tl:=by
 intro G j A m d Sp v SO D E p q ⟨h,J,u,M,Su,SM,w,x,ah,c,r⟩;unfold tl at c;split at c
 ·rename_i g f;let⟨SH,z,e⟩:=bS.mp c;split at e
  ·rename_i a;cases e;let⟨s,B,rfl,t,C,rfl⟩:=w;let⟨y,I,N,P,rfl,⟨n,F,rfl,H,i,rfl⟩,⟨rfl,rfl⟩,rfl⟩:=x;have k:gd m s:=⟨_,t,(λ_ c=>by cases c),(λ_ W c=>by cases c)⟩;have ne:s≠n:=λL=>by
    subst L;exact (df.mp ah).2.2 s (.head _) s (.head _) rfl
   refine Qu o G j A m _ _ v SO D E p q ⟨s,n,B,F,SH,rfl,rfl,ne,t,H,(Cr i).trans<|GL z,a.1,a.2.1,by rw[<-C.length];exact a.2.2.1,by rw[<-i.length];exact a.2.2.2,r .aV _ [] [s] ⟨rfl,rfl⟩ ?_ (br.chg (.head _) k (ep _ _) λd l=>by
    rw[nF]at l;exact dK _ l)⟩
   exact⟨s,_,rfl,eT,(zW i C).mono<|cD.kl k,rfl⟩
  ·cases e
 ·cases c
end
end L2
namespace G
open L2
variable{i D aa b F SH:List aG}{SE:fN}{x:aG->aG}{S:List cR}{y d f g h:aG}{SU:Type}{S_:Option ak}
def rQ:bH:=((dy (a8<|aF eY (ag 4)<|ag 2) (bt (bZ 5<|bq 2 G.mW<|aq (ag 1)<|aq (ag 4) aB)<|bt (ie<|gw A3 2 tl<|aq (ai<|bq 1 G.f9<|aq (ag 5) aB) aB)<|ie<|gw hj 3 kP<|aq (ag 5) aB) en))
def CG:bH:=((bt (bZ 1<|bq 1 G.f9<|aq (ag 0) aB)<|bt (bZ 2 wc)<|bt (bZ 3<|eV aB)<|bt (gj (b4<|ag 0) (a0 4) G.rQ)<|cF<|bQ gY<|aq (ag 3) aB))
def oO:c0:=(c_ 1 6 [0] CG)
def ys:aA ak:=((fx<|d5 (a8<|aF eG (ag 1)<|ag 0)<|a8<|aF eG (ag 2)<|ag 0))
def C1:bH:=((cF<|bQ u_<|aq (ai<|b1 1 [1,2] (b4<|ai<|bq 1 G.oO<|aq (ai<|bQ gY<|aq (ag 0) aB) aB) (a0 0) cP G.ys) aB))
def pj:c0:=(c_ 3 3 [0,1,2] C1)
def wY:aA ak:=((dY<|aq (ag 1)<|aq (ag 0) aB))
def C_:bH:=((cF<|bQ gY<|aq (ai<|b1 2 [] (b4<|ag 0) (gX 2<|dT (a0 0)<|dT (a0 1) gJ) cP G.wY) aB))
def l4:c0:=(c_ 1 1 [0] C_)
def BQ(a b c:af):aA ak:=((et 0))
def Gj(a b c:af):aA Bool:=((a8<|aF eY (ag 0)<|ag 1))
def v7(a b c:af):aA ak:=((bq 3 G.pj<|aq (ai<|bQ hD<|aq (ai<|aF e0 (ag 1)<|ai<|eV<|aq (ag 0) aB) aB)<|aq (ag 2)<|aq (ag 3) aB))
def G6(a b c:af):aA ak:=((et 0))
def CX(a b c:af):aA Bool:=((a8<|aF eG (ag 0)<|ag 1))
def tm(a b c:af):aA ak:=((fx<|d5 (a8<|bq 2 (G.n3 a)<|aq (ag 1)<|aq (ag 0) aB)<|a8<|aF er (ai<|bQ dd<|aq (ai<|b1 1 [2] (b4<|ag 0) (a0 0) (G.CX a b c)<|G.G6 a b c) aB)<|ai<|aE<|.int 1))
def A7(a b c:af):aA ak:=((et 0))
def zV(a b c:af):aA Bool:=((a8<|aF eG (ag 1)<|ag 0))
def uM(a b c:af):aA ak:=((aF er (ai<|bQ dd<|aq (ai<|b1 1 [0] (b4<|ag 1) (a0 0) (G.zV a b c)<|G.A7 a b c) aB)<|ai<|aE<|.int 1))
def zL(a b c:af):aA ak:=((bq 1 G.l4<|aq (ag 0) aB))
def sm(a b c:af):bH:=((bt (bZ 2<|bq 2 G.mU<|aq (ag 0)<|aq (ag 1) aB)<|bt (bZ 3<|bq 2 G.oT<|aq (ag 2)<|aq (ai<|aE<|.int 50) aB)<|bt (bZ 4<|bq 2 G.nI<|aq (ag 2)<|aq (ag 3) aB)<|dy (a8<|aF (rx X) (ag 4)<|ai<|aE .aV) (bt (gW (et 4)<|gX 2<|dT (a0 5)<|dT (a0 6) gJ)<|bt (gW (bq 3 G.nH<|aq (ag 3)<|aq (ag 5)<|aq (ag 6) aB)<|gX 2<|dT (a0 7)<|dT (a0 8) gJ)<|bt (bZ 9<|b1 1 [7] (b4<|ag 3) (a0 0) (G.Gj a b c)<|G.BQ a b c)<|bt (dy (fG (eP<|ai<|bq 3 G.pj<|aq (ag 9)<|aq (ag 5)<|aq (ag 6) aB)<|a8<|aF hn (ai<|bQ dd<|aq (ag 7) aB)<|ai<|bQ dd<|aq (ag 8) aB) (cF<|aE<|.av ar) en)<|bt (dy (eJ<|eP<|ai<|bQ hr<|aq (ai<|b1 1 [9,5,6] (b4<|ag 7) (a0 0) cP<|G.v7 a b c) aB) (cF<|aE<|.av ar) en)<|bt (dy (eJ<|eP<|ai<|bQ hr<|aq (ai<|b1 1 [3,7] (b4<|ag 8) (a0 0) cP<|G.tm a b c) aB) (cF<|aE<|.av ar) en)<|bt (dy (eJ<|eP<|ai<|bQ hr<|aq (ai<|b1 1 [8] (b4<|ag 7) (a0 0) cP<|G.uM a b c) aB) (cF<|aE<|.av ar) en)<|bt (bZ 10<|bQ gY<|aq (ai<|bQ hD<|aq (ai<|bq 1 G.l4<|aq (ag 3) aB) aB) aB)<|bt (gW (bq 1 G.l4<|aq (ai<|eV<|aq (ag 5)<|aq (ag 6) aB) aB)<|gX 2<|dT (a0 11)<|dT (a0 12) gJ)<|bt (dy (a8<|aF hn (ai<|bQ dd<|aq (ai<|aF bR (ai<|bq 3 G.nH<|aq (ag 10)<|aq (ag 11)<|aq (ag 12) aB)<|ai<|aE<|.int 0) aB)<|ai<|bQ dd<|aq (ag 7) aB) (cF<|aE<|.av ar) en)<|bt (bZ 13<|bQ gY<|aq (ai<|bQ hD<|aq (ai<|b1 1 [] (b4<|ag 8) (a0 0) cP<|G.zL a b c) aB) aB)<|dy (a8<|aF (rx X) (ai<|bq 5 (G.pd a b c)<|aq (ag 10)<|aq (ag 11)<|aq (ag 12)<|aq (ai<|bQ gY<|aq (ai<|bQ hD<|aq (ai<|bq 1 G.l4<|aq (ag 7) aB) aB) aB)<|aq (ag 13) aB)<|ai<|aE<|.av X) (cF<|aE<|.av ar) en) en))
def Di(a b c:af):bH:=((bt (gj (je<|aq (ai<|aE<|.int 3) aB) (a0 1)<|G.sm a b c)<|cF<|aE<|.av X))
def ow(a b c:af):c0:=(c_ 1 14 [0] (Di a b c))
theorem BJ:∀SO:List aG,cells? ((aU SO).map (·.1))=Z SO
 |[]=>rfl
 |h::SO=>by
  show (cells? ((aU SO).map (·.1))).map (λj=>(h.1,h.2)::j)=_;rw[BJ SO];rfl
theorem zG:∀SO SH:List aG,qL (aU SO) (aU SH)=aU (SO.foldl eH SH)
 |[],SH=>rfl
 |h::SO,SH=>by
  show qL (aU SO) (fv (aU SH) (c9 h)<|.av X)=_;rw[yW,zG SO];rfl
def KW{SO:List aG}(ah:SO.Nodup)(a:∀h∈SO,0<=h.1/\h.1<=30/\0<=h.2/\h.2<=30)(t:SH.length<=1000)(C:SO.length<=1000):tl (.ay<|aU SH) [.ay (aU SO)]=Z (.im .aV,.ay<|aU<|SO.foldl eH SH):=by
 show (cells? ((aU SO).map (·.1))).bind _=_;rw[BJ];show (if SO.Nodup/\(∀h∈SO,0<=h.1/\h.1<=30/\0<=h.2/\h.2<=30)/\(aU SH).length<=1000/\(aU SO).length<=1000 then Z (ak.im .aV,ak.ay<|qL (aU SO)<|aU SH) else Y)=_;rw[aJ ⟨ah,a,by unfold aU;rw[a9];exact t,by unfold aU;rw[a9];exact C⟩,zG]
def oK(F:List aG):Prop:=(∀h∈F,0<=h.1/\h.1<=30/\0<=h.2/\h.2<=30)
structure u0(F SH:List aG)(a:List cR)(w:List aG):Prop where
 ah:SH.Nodup
 sub:∀h∈SH,h∈F
 yK:∀R∈a,∃j∈F,∀d,d∈R↔cQ F j d
 all:∀h∈SH,∃R∈a,h∈R
 xu:∀h∈w,h∈SH
 dD:a.length<=w.length
abbrev i3(F SH:List aG)(a:List cR)(S0 S_:Option ak):a7:=[Z (aC F),Z<|.ay<|aU F,Z<|.ay<|aU SH,Z<|.lst<|a.map aP,S0,S_]
def RT{a:List cR}{w:List aG}(ah:F.Nodup)(o:oK F)(y:F.length<=200)(l:h∈F)(b:w.length<300)(E:u0 F SH a w):
  ∃m n p,rQ (i3 F SH a (Z<|.im<|V h) S_)=Z (.bo,i3 F m n (Z<|.im<|V h) p)/\u0 F m n (w++[h]):=by
 have z:=E.ah.length_le_of_subset (l₂:=F) E.sub;have f:a8 (aF eY (ag 4)<|ag 2) (i3 F SH a (Z<|.im<|V h) S_)=Z (!decide (h∈SH),i3 F SH a (Z<|.im<|V h) S_):=cz (ed<|Ao SH h);by_cases e:h∈SH
 ·rw[dw e]at f;refine⟨SH,a,S_,e3 f rfl,⟨E.ah,E.sub,E.yK,E.all,λs hd=>?_,by rw[c5];have:=E.dD;lia⟩⟩;rcases dt.mp hd with hd|hd
  ·exact E.xu s hd
  ·rw[cA.mp hd];exact e
 ·rw[dm e]at f;let⟨pt,r,t,u⟩:=wA (F:=F) (j:=h) ⋯;have g:∀d,d∈pt↔cQ F h d:=λd=>(u d).trans yT;have i:∀d∈pt,d∈F:=λd b=>cQ.c1 l ((g d).mp b);have k:pt.Nodup:=iE.ah t;have bD:=k.length_le_of_subset (l₂:=F) i;have v:=u7 k ⋯;have x:=KW (SH:=SH) k (λd b=>o d<|i d b) ⋯ ⋯;have dD:=E.dD;refine⟨pt.foldl eH SH,a++[pt],Z<|aC pt,?_,⟨GO m8 pt SH E.ah,λd b=>?_,λR c=>?_,λd b=>?_,λs hd=>?_,by rw[c5,c5,eD,eD];lia⟩⟩
  ·unfold rQ;refine iD f (bL (Sy:=i3 F SH a (Z<|.im<|V h) (Z<|aC pt)) (jm (ct (P:=[.aQ 1,.aQ 4]) rfl rfl rfl r rfl) (fH rfl) rfl) (bL (Sy:=i3 F (pt.foldl eH SH) a (Z<|.im<|V h) (Z<|aC pt)) (l3<|mF (h:=.ay (aU SH)) rfl rfl (bJ (a4<|ct (P:=[.aQ 5]) rfl rfl rfl v rfl) rfl) rfl rfl x rfl) (l3 (mF (h:=.lst (a.map aP)) rfl rfl (bJ rfl rfl) rfl rfl (r1 (by rw[a9];lia)) ?_))));show _=[Z (aC F),Z<|.ay<|aU F,Z<|.ay<|aU<|pt.foldl eH SH,Z<|ak.lst<|(a++[pt]).map aP,Z<|.im<|V h,Z<|aC pt];rw[eF];rfl
  ·rcases (o5 m8 pt SH d).mp b with b|b
   ·exact E.sub d b
   ·exact i d b
  ·rcases dt.mp c with c|c
   ·exact E.yK R c
   ·rw[cA.mp c];exact⟨h,l,g⟩
  ·rcases (o5 m8 pt SH d).mp b with b|b
   ·let⟨R,c,e⟩:=E.all d b;exact⟨R,dK _ c,e⟩
   ·exact⟨pt,dQ _<|.head _,b⟩
  ·rcases dt.mp hd with hd|hd
   ·exact (o5 m8 pt SH s).mpr (.inl<|E.xu s hd)
   ·rw[cA.mp hd];exact (o5 m8 pt SH h).mpr (.inr<|(g h).mpr .self)
theorem CR{F:List aG}(ah:F.Nodup)(b:oK F)(c:F.length<=200):∀(SI w SH:List aG) (a:List cR) (S0 S_:Option ak),(∀h∈SI,h∈F)->w.length+SI.length<300->u0 F SH a w->
  ∃d e i j,d3 (a0 4) rQ (SI.map V) (i3 F SH a S0 S_)=Z (.bo,i3 F d e i j)/\u0 F d e (w++SI)
 |[],w,SH,a,S0,S_,_,_,E=>⟨SH,a,S0,S_,rfl,by rw[cB];exact E⟩
 |h::SI,w,SH,a,S0,S_,f,k,E=>by
  rw[dF]at k;let⟨S6,l,m,n,o⟩:=RT (S_:=S_) ah b c (f h<|.head _) ⋯ E;let⟨S8,p,q,r,t,g⟩:=CR ah b c SI (w++[h]) S6 l (Z<|.im<|V h) m (λs hd=>f s<|.tail _ hd) (by rw[c5,eD];lia) o;refine⟨S8,p,q,r,?_,by rw[bC]at g;exact g⟩;rw[cE,d3];show (rQ<|i3 F SH a (Z<|.im<|V h) S_).bind _=_;rw[n];exact t
def OB(ah:F.Nodup)(c:oK F)(e:F.length<=200):∃a:List cR,oO [aC F]=Z (.im<|.tup<|a.map aP,[aC F])/\a.length<=300/\(∀R∈a,∃j∈F,∀d,d∈R↔cQ F j d)/\∀h∈F,∃R∈a,h∈R:=by
 have f:=u7 ah ⋯;let⟨SH,a,S0,S_,g,E⟩:=CR ah c e F [] [] [] Y Y (λh b=>b) (by rw[hc];lia) ⟨jb,(λh b=>nomatch b),(λh b=>nomatch b),(λh b=>nomatch b),(λh b=>nomatch b),bl _⟩;have dD:=E.dD;rw[nF]at dD;refine⟨a,?_,⋯,E.yK,λh b=>E.all h (E.xu h (by rw[nF];exact b))⟩;unfold oO CG;exact dM (B:=i3 F SH a S0 S_) rfl (bL (Sy:=[Z (aC F),Z<|.ay<|aU F,Y,Y,Y,Y]) (jm (ct (P:=[.aQ 0]) rfl rfl rfl f rfl) (fH rfl) rfl)<|bL (Sy:=[Z (aC F),Z<|.ay<|aU F,Z<|.ay<|aU [],Y,Y,Y]) rfl<|bL (Sy:=i3 F [] [] Y Y) rfl<|bL (jy (n:=Y) (w:=F.map V) (Sy:=i3 F [] [] Y Y) rfl g rfl)<|eU<|cW (bJ rfl rfl) rfl rfl) rfl
def O4(x:SU->Bool)(w:List SU):u_ [.lst (w.map λu=>.av<|x u)]=Z (.im<|.av<|w.any x):=by
 show (k9 _).map _=_;rw[vQ,qV,ta];rfl
def E6(ah:F.Nodup)(k:oK F)(l:F.length<=200)(m:g∈F):∃I:Bool,pj [aN F,.im<|V g,.im<|V f]=Z (.im<|.av I,[aN F,.im<|V g,.im<|V f])/\(I=X↔cQ F g f):=by
 let⟨a,o,bD,c,p⟩:=OB ah k l;refine⟨a.any λR=>decide (g∈R)&&decide (f∈R),?_,?_⟩
 ·have q:bq 1 G.oO (aq (ai<|bQ gY<|aq (ag 0) aB) aB) [Z (aN F),Z<|.im<|V g,Z<|.im<|V f]=Z (.im<|.tup<|a.map aP,[Z (aN F),Z<|.im<|V g,Z<|.im<|V f]):=ct (P:=[.cf (aC F)]) (bJ (a4<|cW (bJ rfl rfl) rfl rfl) rfl) rfl rfl o rfl;have r:b1 1 [1,2] (b4<|ai<|bq 1 G.oO<|aq (ai<|bQ gY<|aq (ag 0) aB) aB) (a0 0) cP G.ys [Z (aN F),Z<|.im<|V g,Z<|.im<|V f]=Z (.lst<|a.map λR=>.av<|decide (g∈R)&&decide (f∈R),[Z (aN F),Z<|.im<|V g,Z<|.im<|V f]):=by
   refine e2 (w:=a.map aP) (n:=Y) (Sy:=[Z (aN F),Z<|.im<|V g,Z<|.im<|V f]) (by unfold b4;rw[iX q];rfl) (fA aP (λR=>.av<|decide (g∈R)&&decide (f∈R)) _ (λR W=>?_) ⋯) rfl;refine⟨[Z (.im<|aP R),Z<|.im<|V g,Z<|.im<|V f],_,[Z (.im<|aP R),Z<|.im<|V g,Z<|.im<|V f],rfl,rfl,?_,rfl⟩;have S6:a8 (aF eG (ag 1)<|ag 0) [Z (.im<|aP R),Z<|.im<|V g,Z<|.im<|V f]=Z (decide (g∈R),[Z (.im<|aP R),Z<|.im<|V g,Z<|.im<|V f]):=cz (ed<|rh R g);have S8:a8 (aF eG (ag 2)<|ag 0) [Z (.im<|aP R),Z<|.im<|V g,Z<|.im<|V f]=Z (decide (f∈R),[Z (.im<|aP R),Z<|.im<|V g,Z<|.im<|V f]):=cz (ed<|rh R f);unfold ys;cases d:decide (g∈R) with
   |false=>rw[d]at S6;exact j3 (o_ S6)
   |true=>rw[d]at S6;exact j3 (gG S6 (S8.trans (by rw[xI])))
  unfold pj C1;exact dM (B:=[Z (aN F),Z<|.im<|V g,Z<|.im<|V f]) rfl (eU<|cW (bJ (a4 r) rfl) rfl<|O4 _ a) rfl
 ·rw[ph];constructor
  ·rintro⟨R,b,e⟩;rw[cX,hO,hO]at e;let⟨j,h,H⟩:=c R b;exact (cQ.sym h<|(H g).mp e.1).trans ((H f).mp e.2)
  ·intro e;let⟨R,b,i⟩:=p g m;let⟨j,h,H⟩:=c R b;refine⟨R,b,?_⟩;rw[cX,hO,hO];exact⟨i,(H f).mpr<|((H g).mp i).trans e⟩
def bT(h:aG):aG:=((h.2,h.1))
def pJ(h:aG):bT (bT h)=h:=rfl
def tc(e:bT d=bT y):d=y:=by rw[<-pJ d,e,pJ]
def BR(k:List aG):(k.map bT).map bT=k:=by
 rw[gf];exact (mm λh W=>rfl).trans (ri k)
def kA{k:List aG}:d∈k.map bT↔bT d∈k:=by
 rw[cH];exact⟨λ⟨y,a,c⟩=>by rw[<-c];exact a,λe=>⟨bT d,e,rfl⟩⟩
def uw{d:ak}(a:EJ d b)(g:b.length<=1000):l4 [d]=Z (aC<|b.map bT,[d]):=by
 have e:∀h∈b,∃Sy S2 Tq,gX 2 (dT (a0 0)<|dT (a0 1) gJ) (.im<|V h) (replicate 2 Y++jn [] [Z d])=Z Sy/\cP Sy=Z (X,S2)/\wY S2=Z (.im<|V<|bT h,Tq)/\Tq.drop 2=[]:=λh W=>⟨[Z (aI h.1),Z<|aI h.2],_,[Z (aI h.1),Z<|aI h.2],rfl,rfl,rfl,rfl⟩;have f:b1 2 [] (b4<|ag 0) (gX 2<|dT (a0 0)<|dT (a0 1) gJ) cP G.wY [Z d]=Z (.lst<|b.map λh=>V<|bT h,[Z d]):=by
  rcases a with rfl|rfl
  ·exact e2 (w:=b.map V) (n:=Z (0,aN b)) (Sy:=[Z .dB]) rfl (fA V (λh=>V<|bT h) _ e ⋯) rfl
  ·exact e2 (w:=b.map V) (n:=Y) (Sy:=[Z (aC b)]) rfl (fA V (λh=>V<|bT h) _ e ⋯) rfl
 have c:b.map (λh=>V<|bT h)=(b.map bT).map V:=by rw[gf];rfl
 rw[c]at f;unfold l4 C_;exact dM (B:=[Z d]) rfl (eU<|cW (bJ (a4 f) rfl) rfl rfl) (by rcases a with rfl|rfl<;>rfl)
def yA:bT y∈cV (bT d)↔y∈cV d:=by
 let⟨g,f⟩:=d;let⟨h,s⟩:=y;unfold cV bT;simp only[cq,ni,iZ,tW];lia
def zy(e:cQ F g d):cQ (F.map bT) (bT g) (bT d):=by
 induction e with
 |self=>exact .self
 |step _ t C a=>exact .step a (kA.mpr t) (yA.mpr C)
theorem Ax:∀l:cR,gT (l.map bT)=gT l
 |[]=>rfl
 |[d]=>rfl
 |d::y::u=>by
  rw[cE,cE,zk,zk,<-cE,Ax (y::u),pb.mpr yA]
def vl(aa b:List aG)(p:Nat):Prop:=((∀h∈b,h∈aa)/\b.length<=p)
def QS(a:List cR):ab:=(.tup (a.map aP))
abbrev fz(a:List cR):ak:=.im (QS a)
def H3(aa:List aG)(l:cR):Prop:=(vl aa l 290/\l≠[])
def ng.of(e:∀l∈S,H3 aa l)(o:S.length<=100):ng aa S:=⟨o,λl a=>(e l a).2,λl a=>(e l a).1.2,λl a=>(e l a).1.1⟩
def Pf(S:List cR):dd [fz S]=Z (aI (S.length:Int)):=by
 show Z (ak.im<|.int ((S.map aP).length:Int))=_;rw[a9]
def DY{k:List SU}{q:SU->Bool}{d:SU}(ah:k.Nodup)(a:d∈k)(b:q d=X)(un:∀y∈k,q y=X->y=d):(k.filter q).length=1:=by
 have c:(k.filter q).Perm [d]:=(wu (ah.filter _)<|ep _ _).mpr λy=>by
  rw[gv,cA];exact⟨λe=>un y e.1 e.2,λe=>by rw[e];exact⟨a,b⟩⟩
 exact c.length_eq
def d4.one(SN:d4 aa g f x D SE)(c:(f,ar)∉cx SE){k:aG}(b:k∈D):((fF x g f k).filter λh=>decide (h∈aa.filter (fJ SE))).length=1:=by
 have Su:=SN.rs c;have N:=SN.ic b;let⟨A,E⟩:=SN.vX c;let⟨p,i,o⟩:=SN.w.meets Su b;have j:p<=d6 x g k:=by
  refine uW λe=>?_;have:=o _ e;rw[N.1]at this;exact this SN.w.ej
 have m:∀h,decide (h∈aa.filter (fJ SE))=X↔h∈aa/\bG.Cut (λh n=>(h,n)∈cx SE) h:=λh=>by rw[hO,gv,pf]
 unfold fF;rw[sN,aM (by rw[hO];exact A),List.filter_append,sN,aM (by rw[hO];exact E),List.filter_nil,cB];have q:∀{a},a<=d6 x g k->bG.it x a k∈aa:=λ{a} U=>(SN.w.fu _<|N.2 a U).1;refine DY (d:=bG.it x p k) ((Dy _).nodup_iff.mpr<|SN.w.A5 b N) (rI.mpr<|bG.mf.mpr ⟨p,j,rfl⟩) ((m _).mpr ⟨q j,i⟩) λy r s=>?_;let⟨a,U,rfl⟩:=bG.mf.mp (rI.mp r);rw[Su.once ((m _).mp s).2 i]
def d4.each(SN:d4 aa g f x D SE)(i:(f,ar)∉cx SE){S:List cR}(S4:S.Perm (D.map<|fF x g f))(up:lE S){h:aG}(a:h∈aa.filter (fJ SE)):(S.filter λl=>decide (h∈l)).length=1:=by
 have Su:=SN.rs i;let⟨A,E⟩:=SN.vX i;have cut:=pf.mp (gv.mp a).2;have n:h≠g:=λc=>A (c ▸ a);have q:h≠f:=λc=>E (c ▸ a);have r:∀{k},h∈fF x g f k->h∈bG.c1 x k (d6 x g k):=λ{k} e=>by
  unfold fF at e;rcases cq.mp e with e|e
  ·exact absurd e n
  ·rcases dt.mp e with e|e
   ·exact rI.mp e
   ·exact absurd (cA.mp e) q
 let⟨k,b,p,c,s⟩:=SN.w.EM Su cut;have N:=SN.ic b;have t:p<=d6 x g k:=by
  refine uW λe=>?_;have:=s _ e;rw[N.1]at this;exact this SN.w.ej
 have j:h∈bG.c1 x k (d6 x g k):=bG.mf.mpr ⟨p,t,c⟩;refine DY (d:=fF x g f k) up.ah (S4.mem_iff.mpr<|cH.mpr ⟨k,b,rfl⟩) (dw ?_) λl u v=>?_
 ·unfold fF;exact .tail _ (dK _<|rI.mpr j)
 ·let⟨o,m,rfl⟩:=cH.mp (S4.mem_iff.mp u);rw[SN.w.apart m b (SN.ic m) N (r<|hz v) j]
def LX{J:List aG}(a:∀d,d∈i↔bT d∈aa)(SN:mS aa g f F)(Su:mS i (bT g) (bT f) J):F.length=J.length:=by
 have j:∀d,d∈aa↔bT d∈i:=λd=>by rw[a,pJ]
 have go:∀{aa i F J:List aG}{g f:aG},(∀d,d∈i↔G.bT d∈aa)->mS aa g f F->mS i (G.bT g) (G.bT f) J->F.length<=J.length:=λ{aa i F J g f} a SN Su=>by
  refine uW λe=>Su.bar ?_;have:=zy (SN.free (J.map G.bT) (by rw[a9];exact e) λh b=>?_)
  ·refine this.mono λh b=>?_;let⟨t,C⟩:=oY.mp (kA.mp b);exact oY.mpr ⟨(a h).mpr t,λk=>C<|kA.mpr k⟩
  ·have:=Su.ne _ (kA.mp b);exact⟨λc=>this.1 (by rw[c]),λc=>this.2 (by rw[c])⟩
 exact Ge (go a SN Su) (go j Su SN)
def L6(l:cR):eN (l.map bT)=(eN l).map bT:=by
 unfold eN;rw[<-kG,List.map_dropLast]
theorem Bu:∀S:List cR,(S.map λl=>l.map bT).flatMap eN=(S.flatMap eN).map bT
 |[]=>rfl
 |l::S=>by rw[cE,n5,n5,eF,L6,Bu S]
def Rr{j:List aG}{a:List cR}(x:∀d,d∈i↔bT d∈aa)(R:uE aa g f b S)(r:j.Perm (b.map bT))(z:iE j)(k:a.Perm (S.map λl=>l.map bT))(B:lE a):uE i (bT g) (bT f) j a:=by
 have m:∀d,d∈j↔G.bT d∈b:=λd=>r.mem_iff.trans kA;have s:(a.flatMap eN).Perm ((S.flatMap eN).map G.bT):=(k.flatMap_right eN).trans (wO<|Bu S);have u:∀d,d∈a.flatMap eN↔G.bT d∈S.flatMap eN:=λd=>s.mem_iff.trans kA;refine⟨z,λe=>R.na<|(m _).mp e,λe=>R.nb<|(m _).mp e,λe=>?_,⟨λl o=>?_,B,λl o=>?_,s.nodup_iff.mpr<|mc (λd W y W c=>tc c) R.w.ah,λe=>R.w.na<|(u _).mp e,λe=>R.w.nb<|(u _).mp e⟩,by rw[k.length_eq,r.length_eq,a9,a9];exact R.n⟩
 ·have:=zy e;rw[pJ,pJ]at this;refine R.q_ (this.mono λh D=>?_);let⟨t,C⟩:=oY.mp (kA.mp D);exact oY.mpr ⟨(x _).mp t,λF=>C<|(m _).mpr F⟩
 ·let⟨v,q,rfl⟩:=cH.mp (k.mem_iff.mp o);rw[Ax];exact R.w.ch v q
 ·let⟨v,q,rfl⟩:=cH.mp (k.mem_iff.mp o);let⟨H,rfl⟩:=R.w.ll v q;exact⟨H.map G.bT,by rw[cE,eF];rfl⟩
def Fz(up:iE aa)(u:aa.length<=120)(n:g∈aa)(e:f∈aa)(q:g≠f)(E:f∉cV g):
  ∃(F:List aG) (S:List cR),nH [aC aa,.im<|V g,.im<|V f]=Z (.im<|.tup [.tup (F.map V),.tup<|S.map aP],[aC aa,.im<|V g,.im<|V f])/\vl aa F 120/\S.length<=4/\(∀l∈S,vl aa l 122/\l≠[])/\uE aa g f F S/\mS aa g f F/\(∀l∈S,(l.filter λh=>decide (h∈F)).length=1)/\∀h∈F,(S.filter λl=>decide (h∈l)).length=1:=by
 have ah:=up.ah;let⟨x,D,SE,S,r,SN,a,S4,i⟩:=Pa ah ⋯ n e q E;have dD:=SN.dD;have o:=SN.many ah a;have d:=SN.vX a;have O:=SN.Ke ⋯ n e S4 i;have p:=SN.bar a;have s:S.length=(aa.filter<|fJ SE).length:=by rw[S4.length_eq,a9,o]
 refine⟨aa.filter<|fJ SE,S,r,⟨λh j=>(gv.mp j).1,by have:=pR (fJ SE) aa;lia⟩,⋯,λl b=>⟨⟨O.c1 l b,?_⟩,O.ne l b⟩,⟨LA _ up,d.1,d.2,p,⟨O.ch,i,O.sA,O.ah,O.na,O.nb⟩,s⟩,⟨p,d.1,d.2,λw t C=>SN.free e (by rw[<-o];exact t) C⟩,λl b=>?_,λh j=>SN.each a S4 i j⟩
 ·let⟨k,m,c⟩:=cH.mp (S4.mem_iff.mp b);have:=SN.xh m;rw[<-c];unfold fF bG.c1;rw[dF,c5,rA,a9,iP,eD];lia
 ·let⟨k,m,rfl⟩:=cH.mp (S4.mem_iff.mp b);exact SN.one a m
section
variable{k bF j:af}
abbrev Eg(Q:List Int)(o:Int)(e:ak)(aa:List aG)(g f:aG)(O Tz Tt a b c d:Option ak):a7:=[Z (.cY<|Q.map .int),Z<|aI o,Z e,Z<|aC aa,Z<|.im<|.tup [V g,V f],Z<|.im<|V g,Z<|.im<|V f,O,Tz,Tt,a,b,c,d]
def NW{l:cR}(N:j7 aa)(b:gQ k [aC aa]=Z (.im<|.av X,[aC aa]))(a:vl aa l 122/\l≠[])(d:gT l=X)(t:(l.filter λh=>decide (h∈F)).length=1):tm k bF j [Z (.im<|aP l),Z<|aC aa,Z<|aC F]=Z (.im<|.av X,[Z (.im<|aP l),Z<|aC aa,Z<|aC F]):=by
 have f:=a.1.2;have c:=yX N b a.2 ⋯ a.1.1;rw[d]at c;have e:b1 1 [2] (b4<|ag 0) (a0 0) (G.CX k bF j) (G.G6 k bF j) [Z (.im<|aP l),Z<|aC aa,Z<|aC F]=Z (aN<|l.filter λh=>decide (h∈F),[Z (.im<|aP l),Z<|aC aa,Z<|aC F]):=by
  refine e2 (w:=l.map V) (n:=Y) (Sy:=[Z (.im<|aP l),Z<|aC aa,Z<|aC F]) rfl (j5 V (λh=>decide (h∈F)) V _ [] (λh W=>?_) (by rw[hc];lia)) rfl;exact⟨[Z (.im<|V h),Z<|aC F],[Z (.im<|V h),Z<|aC F],rfl,cz<|ed<|rh F h,λ_=>rfl,λ_=>⟨[Z (.im<|V h),Z<|aC F],rfl,rfl⟩⟩
 have aX:dd [aN (l.filter λh=>decide (h∈F))]=Z (aI 1):=by
  show Z (ak.im<|.int (((l.filter λh=>decide (h∈F)).map V).length:Int))=_;rw[a9,t];rfl
 unfold tm;exact j3 (gG (cz<|ct (P:=[.aQ 1,.aQ 0]) rfl rfl rfl c rfl)<|cz<|dc (a4<|cW (bJ (a4 e) rfl) rfl aX) rfl rfl rfl rfl)
def MP(TJ:S.length<=100)(t:(S.filter λl=>decide (h∈l)).length=1):uM k bF j [Z (.im<|V h),Z<|fz S]=Z (.im<|.av X,[Z (.im<|V h),Z<|fz S]):=by
 have a:b1 1 [0] (b4<|ag 1) (a0 0) (G.zV k bF j) (G.A7 k bF j) [Z (.im<|V h),Z<|fz S]=Z (.lst<|(S.filter λl=>decide (h∈l)).map aP,[Z (.im<|V h),Z<|fz S]):=by
  refine e2 (w:=S.map aP) (n:=Y) (Sy:=[Z (.im<|V h),Z<|fz S]) rfl (j5 aP (λl=>decide (h∈l)) aP _ [] (λl W=>?_) (by rw[hc];lia)) rfl;exact⟨[Z (.im<|aP l),Z<|.im<|V h],[Z (.im<|aP l),Z<|.im<|V h],rfl,cz<|ed<|rh l h,λ_=>rfl,λ_=>⟨[Z (.im<|aP l),Z<|.im<|V h],rfl,rfl⟩⟩
 have aX:dd [.lst ((S.filter λl=>decide (h∈l)).map aP)]=Z (aI 1):=by
  show Z (ak.im<|.int (((S.filter λl=>decide (h∈l)).map aP).length:Int))=_;rw[a9,t];rfl
 unfold uM;exact dc (a4<|cW (bJ (a4 a) rfl) rfl aX) rfl rfl rfl rfl
def Qm(ah:b.Nodup)(c:b.length<=1000)(e:b≠[]):∃a:List aG,hD [aN b]=Z (aN a)/\a.Perm b/\iE a:=by
 let⟨a,f,S4,up⟩:=xX ah c;refine⟨a,?_,S4,up⟩;cases b with
 |nil=>exact absurd rfl e
 |cons d u=>exact f
def zP(ah:b.Nodup)(c:b.length<=1000):∃a:List aG,hD [aC b]=Z (aN a)/\a.Perm b/\iE a:=by
 let⟨a,d,S4,up⟩:=xX ah c;exact⟨a,d,S4,up⟩
def RB{Q:List Int}{o:Int}{Tn Tf S0 T O Tz Tt x r s q:Option ak}(f2:0<=o)(pp:o<3):∃S2 f4 Tj f8 ga ge gl go gt g1 g2 g3 hd he,sm k bF j [Z (.cY<|Q.map .int),Z<|aI o,Tn,Tf,S0,S_,T,O,Tz,Tt,x,r,s,q]=Z (.bo,S2)/\S2=[Z (.cY<|Q.map .int),f4,Tj,f8,ga,ge,gl,go,gt,g1,g2,g3,hd,he]:=by
 let⟨e,hf,m⟩:=NO (Q:=Q) f2 ⋯;let⟨t,aa,hm,SD,hw,aT,up,⟨pr,a2,ca⟩,fin⟩:=He (p:=2) (H:=50) ⋯ ⋯ (m.mono ⋯);have aT:aa.length<=110:=by have:(50:Int).toNat=50:=rfl;lia
 let⟨C,SP,two⟩:=Ni (p:=0) (aa:=aa) SD ⋯ hw;let⟨h0,rfl⟩:=m.lst;let⟨cd,rfl⟩:=SD.lst;let⟨am,rfl⟩:=SP.lst;have z:∀{b:bH}{Su:Option (mR×a7)},b [Z (.cY<|Q.map .int),Z<|aI o,Z<|.lst cd,Z<|aC aa,S0,S_,T,O,Tz,Tt,x,r,s,q]=Su->bt (bZ 2<|bq 2 G.mU<|aq (ag 0)<|aq (ag 1) aB) (bt (bZ 3<|bq 2 G.oT<|aq (ag 2)<|aq (ai<|aE<|.int 50) aB) b) [Z (.cY<|Q.map .int),Z<|aI o,Tn,Tf,S0,S_,T,O,Tz,Tt,x,r,s,q]=Su:=λii=>
  bL (Sy:=[Z (.cY<|Q.map .int),Z<|aI o,Z<|.lst h0,Tf,S0,S_,T,O,Tz,Tt,x,r,s,q]) (jm (ct (P:=[.aQ 0,.aQ 1]) rfl rfl rfl hf rfl) (fH rfl) rfl) (bL (Sy:=[Z (.cY<|Q.map .int),Z<|aI o,Z<|.lst cd,Z<|aC aa,S0,S_,T,O,Tz,Tt,x,r,s,q]) (jm (ct (P:=[.aQ 2,.cf<|aI 50]) rfl rfl rfl hm rfl) (fH rfl) rfl) ii);unfold sm;rcases two with bn|⟨g,f,an,ce,ci,E,bn⟩
 ·exact⟨_,_,_,_,_,_,_,_,_,_,_,_,_,_,z<|bL (Sy:=[Z (.cY<|Q.map .int),Z<|aI o,Z<|.lst am,Z<|aC aa,Z<|.im .aV,S_,T,O,Tz,Tt,x,r,s,q]) (jm (ct (P:=[.aQ 2,.aQ 3]) rfl rfl rfl bn rfl) (fH rfl) rfl)<|e3 (Sy:=[Z (.cY<|Q.map .int),Z<|aI o,Z<|.lst am,Z<|aC aa,Z<|.im .aV,S_,T,O,Tz,Tt,x,r,s,q]) rfl rfl,rfl⟩
 ·have N:j7 aa:=⟨up,fin,⋯⟩;have ah:=up.ah;have io:gQ k [aC aa]=Z (.im<|.av X,[aC aa]):=z7 N an λd L=>C3 ca an L;let⟨F,S,it,cl,TJ,as,R,SN,jp,kt⟩:=Fz up ⋯ an ce ci E;have pt:=cl.2;have kw:=R.up.ah;generalize a1:(aa.filter λh=>!decide (h∈F))=rs;have pu:rs.length<=110:=by rw[<-a1];exact ew (pR _ _) aT
  have co:rs.Nodup:=by rw[<-a1];exact ah.filter _
  have bd:∀d,d∈rs↔d∈aa/\d∉F:=λd=>by rw[<-a1];exact oY
  have cr:oK rs:=λh D=>fin h ((bd h).mp D).1;have cs:g∈rs:=(bd g).mpr ⟨an,R.na⟩;let⟨db,ds,lc⟩:=E6 (f:=f) co cr ⋯ cs;have lf:db=ar:=by
   cases db with
   |false=>rfl
   |true=>exact absurd (lc.mp rfl) (by rw[<-a1];exact R.q_)
  rw[lf]at ds;let B (Tt x r s q:Option ak):a7:=Eg Q o (.lst am) aa g f (Z<|aC F) (Z<|fz S) Tt x r s q
  have li:b1 1 [7] (b4<|ag 3) (a0 0) (G.Gj k bF j) (G.BQ k bF j) (B Tt x r s q)=Z (aN rs,B Tt x r s q):=by
   rw[<-a1];refine e2 (w:=aa.map V) (n:=Y) (Sy:=B Tt x r s q) rfl (j5 V (λh=>!decide (h∈F)) V _ [] (λh W=>?_) (by rw[hc];lia)) rfl;exact⟨[Z (.im<|V h),Z<|aC F],[Z (.im<|V h),Z<|aC F],rfl,cz<|ed<|Fo F h,λ_=>rfl,λ_=>⟨[Z (.im<|V h),Z<|aC F],rfl,rfl⟩⟩
  have lm:b1 1 [9,5,6] (b4<|ag 7) (a0 0) cP (G.v7 k bF j) (B (Z<|aN rs) x r s q)=Z (.lst<|F.map λ_=>.av X,B (Z<|aN rs) x r s q):=by
   refine e2 (w:=F.map V) (n:=Y) (Sy:=B (Z<|aN rs) x r s q) rfl (fA V (λ_=>.av X) _ (λh D=>?_) ⋯) rfl;have ln:h∉rs:=λa2=>((bd h).mp a2).2 D;have dL:(rs++[h]).Nodup:=df.mpr ⟨co,ep _ _,λd L y ls c=>by rw[cA.mp ls]at c;exact ln (c ▸ L)⟩;let⟨be,lv,S4,W⟩:=Qm dL (by rw[c5,eD];lia) (List.append_ne_nil_of_right_ne_nil _<|tk _ _);have bs:∀d,d∈be↔d∈rs\/d=h:=λd=>by rw[S4.mem_iff,dt,cA]
   have lw:oK be:=λd L=>((bs d).mp L).elim (cr d) λc=>by rw[c];exact fin h (cl.1 h D)
   have aQ:be.length<=200:=by rw[S4.length_eq,c5,eD];lia
   let⟨I,c,a⟩:=E6 (f:=f) (S4.nodup_iff.mpr dL) lw aQ ((bs g).mpr<|.inl cs);have mb:I=X:=a.mpr ((SN.free (F.erase h) (by rw[CK D];have:=wD D;lia) λd L=>SN.ne d<|List.mem_of_mem_erase L).mono λd L=>by
    let⟨mo,ms⟩:=oY.mp L;refine (bs d).mpr ?_;by_cases eq:d=h
    ·exact .inr eq
    ·exact .inl ((bd d).mpr ⟨mo,λa2=>ms<|(GB eq).mpr a2⟩))
   rw[mb]at c;have ad:e0 (aN rs) (aN [h])=Z (aN<|rs++[h]):=by
    show (if (rs.map V).length+([h].map V).length<=100000 then Z (ak.lst<|rs.map V++[h].map V) else Y)=_;rw[aJ (by rw[a9,a9,eD];lia),<-eF]
   refine⟨[Z (.im<|V h),Z<|aN rs,Z<|.im<|V g,Z<|.im<|V f],_,[Z (.im<|V h),Z<|aN rs,Z<|.im<|V g,Z<|.im<|V f],rfl,rfl,?_,rfl⟩;unfold v7;exact ct (P:=[.cf (aN be),.aQ 2,.aQ 3]) (bJ (a4<|cW (bJ (a4<|dc rfl (a4 rfl) rfl rfl ad) rfl) rfl lv)<|bJ rfl<|bJ rfl rfl) rfl rfl c rfl
  have m0:b1 1 [3,7] (b4<|ag 8) (a0 0) cP (G.tm k bF j) (B (Z<|aN rs) x r s q)=Z (.lst<|S.map λ_=>.av X,B (Z<|aN rs) x r s q):=by
   refine e2 (w:=S.map aP) (n:=Y) (Sy:=B (Z<|aN rs) x r s q) rfl (fA aP (λ_=>.av X) _ (λl M=>?_) ⋯) rfl;exact⟨[Z (.im<|aP l),Z<|aC aa,Z<|aC F],_,[Z (.im<|aP l),Z<|aC aa,Z<|aC F],rfl,rfl,NW N io (as l M) (R.w.ch l M)<|jp l M,rfl⟩
  have nb:b1 1 [8] (b4<|ag 7) (a0 0) cP (G.uM k bF j) (B (Z<|aN rs) x r s q)=Z (.lst<|F.map λ_=>.av X,B (Z<|aN rs) x r s q):=by
   refine e2 (w:=F.map V) (n:=Y) (Sy:=B (Z<|aN rs) x r s q) rfl (fA V (λ_=>.av X) _ (λh D=>?_) ⋯) rfl;exact⟨[Z (.im<|V h),Z<|fz S],_,[Z (.im<|V h),Z<|fz S],rfl,rfl,MP ⋯<|kt h D,rfl⟩
  have nl:=uw (d:=aC aa) (b:=aa) (.inr rfl) ⋯;have nm:=uw (d:=aN [g,f]) (b:=[g,f]) (.inl rfl) (nP rfl);have nn:=uw (d:=aC F) (b:=F) (.inr rfl) ⋯;let⟨i,no,ev,ex⟩:=zP (b:=aa.map bT) (mc (λd W y W c=>tc c) ah) (by rw[a9];lia);let⟨bi,np,fd,ns⟩:=zP (b:=F.map bT) (mc (λd W y W c=>tc c) kw) (by rw[a9];lia);have U:∀d,d∈i↔bT d∈aa:=λd=>ev.mem_iff.trans kA;have py:i.length<=110:=by rw[ev.length_eq,a9];exact aT
  have Ts:bT g∈i:=(U _).mpr an;have To:bT f∈i:=(U _).mpr ce;have fn:bT g≠bT f:=λc=>ci (tc c);have fr:bT f∉cV (bT g):=λc=>E (yA.mp c);let⟨J,rc,nw,re,W,W,W,Su,W,W⟩:=Fz ex ⋯ Ts To fn fr;have same:=LX U SN Su;have ok:∀h∈i,0<=h.1/\h.1<=30/\0<=h.2/\h.2<=30:=λh D=>by
   have:=fin _ ((U h).mp D);exact⟨this.2.2.1,this.2.2.2,this.1,this.2.1⟩
  have f0:j7 i:=⟨ex,ok,⋯⟩;have ol:∀d∈i,cQ i (bT g) d:=λd L=>by
   have:=zy (C3 ca an<|(U d).mp L);rw[pJ]at this;exact this.mono λh D=>(U h).mpr (kA.mp D)
  have on:gQ k [aC i]=Z (.im<|.av X,[aC i]):=z7 f0 Ts ol;have op:(S.map λl=>l.map bT).Nodup:=mc (λd W y W c=>by rw[<-BR d,show d.map bT=y.map bT from c,BR]) R.w.up.ah;have neT:∀l∈S.map λl=>l.map bT,l≠[]:=λl M=>by
   let⟨v,bm,rfl⟩:=cH.mp M;exact λc=>(as v bm).2 (A8.mp c)
  let⟨al,f1,ap,o0⟩:=DE op (by rw[a9];lia) neT;have pc:hD [.lst ((S.map λl=>l.map bT).map aP)]=Z (.lst<|al.map aP):=by
   cases bv:S with
   |nil=>
    rw[bv]at ap;have:al=[]:=DN.mp ap;rw[this];rfl
   |cons l u=>
    rw[bv]at f1;have sc:=neT (l.map bT) (by rw[bv];exact .head _);exact f1
  have pi:ng i al:=.of (λl M=>by
   let⟨v,bm,rfl⟩:=cH.mp (ap.mem_iff.mp M);exact⟨⟨λh D=>(U h).mpr<|(as v bm).1.1 _ (kA.mp D),by rw[a9];have:=(as v bm).1.2;lia⟩,neT _<|ap.mem_iff.mp M⟩) (by rw[ap.length_eq,a9];lia)
  have pm:pd k bF j [aC i,.im<|V<|bT g,.im<|V<|bT f,aC bi,fz al]=Z (.im<|.av X,[aC i,.im<|V<|bT g,.im<|V<|bT f,aC bi,fz al]):=by
   let⟨I,c,a⟩:=L5 (bF:=bF) (j:=j) f0 on Ts To fn fr (b:=bi) (by rw[fd.length_eq,a9];lia) pi;rw[a.mpr (Rr U R fd ns ap o0)]at c;exact c
  have po:b1 1 [] (b4<|ag 8) (a0 0) cP (G.zL k bF j) (B (Z<|aN rs) (Z<|aC i) (Z<|.im<|V<|bT g) (Z<|.im<|V<|bT f) q)=Z (.lst<|(S.map λl=>l.map bT).map aP,B (Z<|aN rs) (Z<|aC i) (Z<|.im<|V<|bT g) (Z<|.im<|V<|bT f) q):=by
   rw[gf];refine e2 (w:=S.map aP) (n:=Y) (Sy:=B (Z<|aN rs) (Z<|aC i) (Z<|.im<|V<|bT g) (Z<|.im<|V<|bT f) q) rfl (fA aP (aP ∘ λl=>l.map bT) _ (λl M=>?_) ⋯) rfl;have c:=uw (d:=aC l) (b:=l) (.inr rfl) (by have:=(as l M).1.2;lia);exact⟨[Z (.im<|aP l)],_,[Z (.im<|aP l)],rfl,rfl,ct (P:=[.aQ 0]) rfl rfl rfl c rfl,rfl⟩
  refine⟨B (Z<|aN rs) (Z<|aC i) (Z<|.im<|V<|bT g) (Z<|.im<|V<|bT f)<|Z<|fz al,_,_,_,_,_,_,_,_,_,_,_,_,_,z<|bL (Sy:=[Z (.cY<|Q.map .int),Z<|aI o,Z<|.lst am,Z<|aC aa,Z<|.im<|.tup [V g,V f],S_,T,O,Tz,Tt,x,r,s,q]) (jm (ct (P:=[.aQ 2,.aQ 3]) rfl rfl rfl bn rfl) (fH rfl) rfl)<|iD (Sy:=[Z (.cY<|Q.map .int),Z<|aI o,Z<|.lst am,Z<|aC aa,Z<|.im<|.tup [V g,V f],S_,T,O,Tz,Tt,x,r,s,q]) rfl ?_,rfl⟩;refine bL (Sy:=Eg Q o (.lst am) aa g f O Tz Tt x r s q) rfl ?_;refine bL (Sy:=B Tt x r s q) (p1 (ct (P:=[.aQ 3,.aQ 5,.aQ 6]) rfl rfl rfl it rfl) rfl) ?_;refine bL (Sy:=B (Z<|aN rs) x r s q) (kS li (fH rfl) rfl) ?_;refine bL (e3 (Sy:=B (Z<|aN rs) x r s q) (fl (C9 (iX<|ct (P:=[.aQ 9,.aQ 5,.aQ 6]) rfl rfl rfl ds rfl) rfl rfl) (cz (dc (a4<|cW (bJ rfl rfl) rfl<|mz F) (a4<|cW (bJ rfl rfl) rfl<|Pf S) rfl rfl ((FU _ _).trans (by rw[R.n,dw rfl];rfl))))) rfl) ?_;refine bL (e3 (i2<|gR (a4<|cW (bJ (a4 lm) rfl) rfl<|mP F) rfl rfl) rfl) ?_;refine bL (e3 (i2<|gR (a4<|cW (bJ (a4 m0) rfl) rfl<|mP S) rfl rfl) rfl) ?_;refine bL (e3 (i2<|gR (a4<|cW (bJ (a4 nb) rfl) rfl<|mP F) rfl rfl) rfl) ?_;refine bL (Sy:=B (Z<|aN rs) (Z<|aC i) r s q) (kS (cW (bJ (a4<|cW (bJ (a4<|ct (P:=[.aQ 3]) rfl rfl rfl nl rfl) rfl) rfl no) rfl) rfl rfl) (fH rfl) rfl) ?_;refine bL (Sy:=B (Z<|aN rs) (Z<|aC i) (Z<|.im<|V<|bT g) (Z<|.im<|V<|bT f) q) (p1 (ct (P:=[.cf (aN [g,f])]) rfl rfl rfl nm rfl) rfl) ?_;refine bL (e3 (Sy:=B (Z<|aN rs) (Z<|aC i) (Z<|.im<|V<|bT g) (Z<|.im<|V<|bT f) q) (cz (dc (a4<|cW (bJ (a4<|dc (a4<|ct (P:=[.aQ 10,.aQ 11,.aQ 12]) rfl rfl rfl nw rfl) rfl rfl rfl rfl) rfl) rfl<|mz J) (a4<|cW (bJ rfl rfl) rfl<|mz F) rfl rfl ((FU _ _).trans (by rw[same,dw rfl];rfl)))) rfl) ?_;refine bL (Sy:=B (Z<|aN rs) (Z<|aC i) (Z<|.im<|V<|bT g) (Z<|.im<|V<|bT f) (Z<|fz al)) (kS (cW (bJ (a4<|cW (bJ (a4 po) rfl) rfl pc) rfl) rfl rfl) (fH rfl) rfl) ?_;exact e3 (cz<|dc (a4<|ct (P:=[.aQ 10,.aQ 11,.aQ 12,.cf<|aC bi,.aQ 13]) (bJ rfl<|bJ rfl<|bJ rfl<|bJ (a4<|cW (bJ (a4<|cW (bJ (a4<|ct (P:=[.aQ 7]) rfl rfl rfl nn rfl) rfl) rfl np) rfl) rfl rfl)<|bJ rfl rfl) rfl rfl pm rfl) rfl rfl rfl rfl) rfl
end
def PR(k bF j:af)(Q:List Int)(m:Q.length<100000):∃G,ow k bF j [.cY (Q.map .int)]=Z (.im<|.av X,G):=by
 let⟨SR,l,E,Tn,Tf,S0,S_,T,O,Tz,Tt,e,g,h,i,rfl⟩:=w6 (S1:=a0 1) (f:=sm k bF j) (w:=gn 0 3) (λa B=>∃E Tn Tf S0 S_ T O Tz Tt e g h i,B=[Z (.cY<|Q.map .int),E,Tn,Tf,S0,S_,T,O,Tz,Tt,e,g,h,i]) (B:=[Z (.cY<|Q.map .int),Y,Y,Y,Y,Y,Y,Y,Y,Y,Y,Y,Y,Y]) ⟨Y,Y,Y,Y,Y,Y,Y,Y,Y,Y,Y,Y,Y,rfl⟩
  (λa d B b d2=>by
   let⟨E,Tn,Tf,S0,S_,T,O,Tz,Tt,e,g,h,i,rfl⟩:=d2;obtain⟨U,rfl⟩:a<3/\d=.int (0+(a:Int)):=by
    match a,b with
    |0,b=>exact⟨by decide,(Option.some.inj b).symm⟩
    |1,b=>exact⟨by decide,(Option.some.inj b).symm⟩
    |2,b=>exact⟨by decide,(Option.some.inj b).symm⟩
    |p+3,b=>cases b
   let⟨S2,q,Tj,r,s,t,u,v,x,y,z,A,C,D,c,rfl⟩:=RB (k:=k) (bF:=bF) (j:=j) (Q:=Q) (o:=0+(a:Int)) (Tn:=Tn) (Tf:=Tf) (S0:=S0) (S_:=S_) (T:=T) (O:=O) (Tz:=Tz) (Tt:=Tt) (x:=e) (r:=g) (s:=h) (q:=i) ⋯ ⋯;exact⟨[Z (.cY<|Q.map .int),Z<|aI<|0+(a:Int),Tn,Tf,S0,S_,T,O,Tz,Tt,e,g,h,i],.bo,_,rfl,c,.inl rfl,_,_,_,_,_,_,_,_,_,_,_,_,_,rfl⟩)
 refine⟨[.cY (Q.map .int)],?_⟩;unfold ow Di;exact dM (B:=[Z (.cY<|Q.map .int),E,Tn,Tf,S0,S_,T,O,Tz,Tt,e,g,h,i]) rfl (bL (jy (n:=Y) (w:=gn 0 3) (Sy:=[Z (.cY<|Q.map .int),Y,Y,Y,Y,Y,Y,Y,Y,Y,Y,Y,Y,Y]) rfl l rfl) rfl) rfl
end G
namespace L2
end L2
set_option maxHeartbeats 4000000
namespace K36
open L2 PyProof.Rows
variable{i t n x:af}{k:PySem.W.OpenLaw}{h:eQ}{o:Nat}{O:bw}
def dg(a:Nat):b9:=(PySem.Challenge.pw_mowfloor_k36_whole_bars_and_ways.main.body.getD a (.Pass ⟨0,0,0,0⟩))
structure dX(az:aD->Option ae):Prop where
 i8:az "all" = Y
 Pg:az "any" = Y
 Pw:az "bool" = Y
 BA:az "dict" = Y
 Dv:az "int" = Y
 lW:az "isinstance" = Y
 ft:az "len" = Y
 H2:az "max" = Y
 PC:az "min" = Y
 qf:az "range" = Y
 Kj:az "reversed" = Y
 nS:az "sorted" = Y
 gB:az "tuple" = Y
 ux:az "zip" = Y
 En:∃I,az "GREATEST" = Z (.int 30 I)
 nO:∃I,az "IN" = Z (.str "in" I)
 sT:∃I,az "OUT" = Z (.str "out" I)
def jd:e8 "all" = Z (.builtin "all"):=by decide +kernel
def Na:e8 "any" = Z (.builtin "any"):=by decide +kernel
def Jy:e8 "bool" = Z (.type "bool"):=by decide +kernel
def Cq:e8 "dict" = Z (.type "dict"):=by decide +kernel
def Ft:e8 "int" = Z (.type "int"):=by decide +kernel
def my:e8 "isinstance" = Z (.builtin "isinstance"):=by decide +kernel
def fo:e8 "len" = Z (.builtin "len"):=by decide +kernel
def H7:e8 "max" = Z (.builtin "max"):=by decide +kernel
def Qg:e8 "min" = Z (.builtin "min"):=by decide +kernel
def m2:e8 "sorted" = Z (.builtin "sorted"):=by decide +kernel
def g0:e8 "tuple" = Z (.type "tuple"):=by decide +kernel
def bY(a:eE o O):O.units+20<b6:=by have:=a.un;omega
def Ed(a:eE o O):O.units+30<b6:=by have:=a.un;omega
abbrev zE:b9:=dg 2
abbrev M0:List aD:=["thing"]
abbrev n0:b9:=dg 3
abbrev OZ:List aD:=["thing"]
abbrev sG:b9:=dg 4
abbrev JL:List aD:=["field","thing"]
abbrev jN:b9:=dg 5
abbrev Mv:List aD:=["thing"]
abbrev sQ:b9:=dg 6
abbrev HW:List aD:=["thing","is_kind"]
abbrev oX:b9:=dg 28
abbrev QC:List aD:=["thing"]
abbrev uG:b9:=dg 6
abbrev MB:List aD:=["thing","is_kind"]
abbrev s8:b9:=dg 6
abbrev NT:List aD:=["thing","is_kind"]
abbrev oC:b9:=dg 7
abbrev Py:List aD:=["things","found","thing"]
abbrev rZ:b9:=dg 8
abbrev Q7:List aD:=["cell","row","column"]
abbrev ub:b9:=dg 9
abbrev M5:List aD:=["free","start","found","waiting","cell"]
abbrev vd:b9:=dg 16
abbrev Ff:List aD:=["ahead","spot","cell"]
abbrev x2:b9:=dg 17
abbrev Rm:List aD:=["ahead","a","start","came","layer","behind","spot","further"]
abbrev yn:b9:=dg 18
abbrev Hd:List aD:=["ahead","came","last","spot"]
abbrev wd:b9:=dg 19
abbrev HX:List aD:=["ahead","a","last","way"]
abbrev oZ:b9:=dg 20
abbrev wK:List aD:=["field","a","b","ahead","lasts","came","cells","ways"]
abbrev vw:b9:=dg 22
abbrev Mk:List aD:=["thing"]
abbrev rR:b9:=dg 23
abbrev MH:List aD:=["thing"]
abbrev yg:b9:=dg 24
abbrev KR:List aD:=["floor","free","placed","found","cell","part"]
abbrev qB:b9:=dg 26
abbrev KS:List aD:=["field","thing","free"]
abbrev vy:b9:=dg 29
abbrev Ju:List aD:=["field","a","b"]
abbrev qd:b9:=dg 30
abbrev GY:List aD:=["field","a","b","cells","shut"]
abbrev uu:b9:=dg 31
abbrev Ms:List aD:=["field","a","b","ways","met","way"]
abbrev uI:b9:=dg 32
abbrev J9:List aD:=["field","a","b","cells","ways"]
abbrev uv:b9:=dg 34
abbrev IE:List aD:=["_law_script","_law_turn","_law_seed","_law_cell","_law_bound"]
abbrev vJ:b9:=dg 35
abbrev L8:List aD:=["_law_left_here","_law_many","_law_digit","_law_mixed"]
abbrev vK:b9:=dg 36
abbrev NU:List aD:=["_law_cell"]
abbrev v9:b9:=dg 37
abbrev I2:List aD:=["_law_some","_law_begin","_law_there","_law_met","_law_waiting","_law_other"]
abbrev xp:b9:=dg 38
abbrev K7:List aD:=["_law_left_here","_law_most","_law_cells","_law_k","_law_other"]
abbrev o6:b9:=dg 39
abbrev za:List aD:=["_law_left_here","_law_most","_law_way","_law_wide","_law_high","_law_cells","_law_k","_law_part_here","_law_row","_law_column"]
abbrev qI:b9:=dg 40
abbrev FO:List aD:=["_law_left_here","_law_field_here","_law_a","_law_some"]
abbrev vD:b9:=dg 41
abbrev Gt:List aD:=["_law_some","_law_a","_law_b"]
abbrev ts:b9:=dg 42
abbrev Jn:List aD:=["_law_cells"]
abbrev vz:b9:=dg 43
abbrev C7:List aD:=["_law_script","_law_turn","_law_left_here","_law_field_here","_law_two","_law_a","_law_b","_law_cells","_law_ways","_law_rest","_law_other","_law_one","_law_last","_law_turned_here"]
section
variable{R:bA}{l:bk}{So:Φ}{az:aD->Option ae}{SA:a5}
abbrev Bt(h:eQ)(x:af):Prop:=e_ h 1 "is_whole" zE x ["thing"] 1 G.vT
def P7(N:dq h.K h.az "is_whole" zE x ["thing"])(S:dX h.az):Bt h x:=by
 refine d1 M0 N λah Q O Tc j m Sv a=>?_;exact (bO<|cL<|g5 (eC<|l8 rfl S.lW my rfl S.Dv Ft<|au 0)<|eC<|kR<|J0<|eC<|l8 rfl S.lW my rfl S.Pw Jy<|au 0)
abbrev uP(h:eQ)(x:af):Prop:=e_ h 2 "is_pair" n0 x ["thing"] 1 G.j8
def OY(N:dq h.K h.az "is_pair" n0 x ["thing"])(S:dX h.az){c:af}(b:Bt h c):uP h x:=by
 refine d1 OZ N λah Q O Tc j m Sv a=>?_;exact (bO<|cL<|g5 (eC<|l8 rfl S.lW my rfl S.gB g0<|au 0)<|g5 (eC<|gH (hi<|bY a) (aR<|c7 fE S.ft fo<|a6<|au 0) bg<|dZ _)<|g5 (eC<|b2 b a<|a6<|de a (au 0) bg)<|eC<|kR<|b2 b a<|a6<|de a (au 0) bg)
abbrev RL(h:eQ)(x:af):Prop:=e_ h 3 "is_of" sG x ["field","thing"] 2 G.oM
def Qb(N:dq h.K h.az "is_of" sG x ["field","thing"])(S:dX h.az){b:af}(c:uP h b):RL h x:=by
 refine d1 JL N λah Q O Tc j m Sv a=>?_;exact (bO<|cL<|g5 (eC<|b2 c a<|a6<|au 1)<|eC<|kR<|gH (hL<|bY a) (au 1) (au 0) rfl)
abbrev Kv(h:eQ)(x:af):Prop:=e_ h 3 "is_cell" jN x ["thing"] 1 G.iW
def Ph(N:dq h.K h.az "is_cell" jN x ["thing"])(S:dX h.az){b:af}(c:uP h b):Kv h x:=by
 refine d1 Mv N λah Q O Tc j m Sv a=>?_;exact (bO<|cL<|g5 (eC<|b2 c a<|a6<|au 0)<|g5 (eC<|BY mh mh bg (de a (au 0) bg)<|aR<|C5 rfl S.En.choose_spec)<|eC<|kR<|BY mh mh bg (de a (au 0) bg)<|aR<|C5 rfl S.En.choose_spec)
def NV(N:dq So az "is_rising" sQ x ["thing","is_kind"])(S:dX az){b:af}(aG:cg R l So az SA 3 "is_cell" jN b ["thing"] 1 G.iW):
  cg R l So az SA 4 "is_rising" sQ x ["thing","is_kind"] 2 (G.r0 b):=by
 refine d1 HW N λah Q O Tc j m Sv c=>?_;exact (bB (eu (fc.hs<|ih (gO<|f_<|aR<|l8 rfl S.lW my rfl S.gB g0<|au 0)<|j2<|gO<|f_<|aR<|c7 (jg rfl) S.i8 jd<|a6<|aR<|gh ["part"] [1] (eh<|au 0) (λa=>(d7 0))<|λa=>(zc aG c (c8 1)<|a6<|au 0)) (bO<|cL fj) eR)<|bO<|cL<|c7 (jg rfl) S.i8 jd<|a6<|aR<|gh ["ahead" ,"behind"] [] (vh rfl S.ux<|b8 (au 0)<|aR<|pT (au 0) (m4 hb) rM) (λa=>(lY (d7 0)<|d7 1))<|λa=>(gH (xD<|bY c) (au 0) (au 1)<|dZ _))
abbrev IA(h:eQ)(x:af):Prop:=e_ h 3 "is_way_like" oX x ["thing"] 1 G.nB
def Qf(N:dq h.K h.az "is_way_like" oX x ["thing"])(S:dX h.az){a:af}(b:uP h a):IA h x:=by
 refine d1 QC N λah Q O Tc j m Sv c=>?_;exact (bO<|cL<|g5 (eC<|l8 rfl S.lW my rfl S.gB g0<|au 0)<|eC<|kR<|c7 (jg rfl) S.i8 jd<|a6<|aR<|gh ["part"] [] (eh<|au 0) (λd=>(d7 0))<|λd=>(b2 b c<|a6<|au 0))
def K_(N:dq So az "is_rising" uG x ["thing","is_kind"])(S:dX az){b:af}(d:cg R l So az SA 3 "is_way_like" oX b ["thing"] 1 G.nB):
  cg R l So az SA 4 "is_rising" uG x ["thing","is_kind"] 2 (G.p0 b):=by
 refine d1 MB N λah Q O Tc j m Sv c=>?_;exact (bB (eu (fc.hs<|ih (gO<|f_<|aR<|l8 rfl S.lW my rfl S.gB g0<|au 0)<|j2<|gO<|f_<|aR<|c7 (jg rfl) S.i8 jd<|a6<|aR<|gh ["part"] [1] (eh<|au 0) (λa=>(d7 0))<|λa=>(zc d c (c8 1)<|a6<|au 0)) (bO<|cL fj) eR)<|bO<|cL<|c7 (jg rfl) S.i8 jd<|a6<|aR<|gh ["ahead" ,"behind"] [] (vh rfl S.ux<|b8 (au 0)<|aR<|pT (au 0) (m4 hb) rM) (λa=>(lY (d7 0)<|d7 1))<|λa=>(gH (xD<|bY c) (au 0) (au 1)<|dZ _))
def Oq(N:dq So az "is_rising" s8 x ["thing","is_kind"])(S:dX az){b:af}(d:cg R l So az SA 2 "is_pair" n0 b ["thing"] 1 G.j8):
  cg R l So az SA 3 "is_rising" s8 x ["thing","is_kind"] 2 (G.pD b):=by
 refine d1 NT N λah Q O Tc j m Sv c=>?_;exact (bB (eu (fc.hs<|ih (gO<|f_<|aR<|l8 rfl S.lW my rfl S.gB g0<|au 0)<|j2<|gO<|f_<|aR<|c7 (jg rfl) S.i8 jd<|a6<|aR<|gh ["part"] [1] (eh<|au 0) (λa=>(d7 0))<|λa=>(zc d c (c8 1)<|a6<|au 0)) (bO<|cL fj) eR)<|bO<|cL<|c7 (jg rfl) S.i8 jd<|a6<|aR<|gh ["ahead" ,"behind"] [] (vh rfl S.ux<|b8 (au 0)<|aR<|pT (au 0) (m4 hb) rM) (λa=>(lY (d7 0)<|d7 1))<|λa=>(gH (xD<|bY c) (au 0) (au 1)<|dZ _))
abbrev xG(h:eQ)(x:af):Prop:=e_ h 1 "lookup" oC x ["things"] 1 G.f9
def HU(N:dq h.K h.az "lookup" oC x ["things"])(S:dX h.az):xG h x:=by
 refine d1 Py N λah Q O Tc j m Sv a=>?_;exact (bB (dz 1 ah Fx) (bB (jH (Tp:=[0]) g4 rfl (eh<|au 0) (iG 2 ah) (bO<|i5 fj<|mG (c8 1) (fC<|c8 2)<|rK<|bY a) ∅ (vB ∅))<|bO<|cL<|fC<|c8 1))
abbrev uj(h:eQ)(x:af):Prop:=e_ h 1 "around" rZ x ["cell"] 1 G.i1
def Pz(N:dq h.K h.az "around" rZ x ["cell"])(S:dX h.az):uj h x:=by
 refine d1 Q7 N λah Q O Tc j m Sv a=>?_;exact (bB (dz 1 ah<|jL a (au 0) bg) (bB (dz 2 ah<|jL a (au 0) bg) (bO (cL (f5 (by exact (kh (hP (by exact (b8 (dj uy (au 1) bg)<|au 2))) (by exact (h6 (hP (by exact (b8 (au 1)<|dj uy (au 2) bg))) (hP (by exact (b8 (au 1)<|dj gF (au 2) bg))) (hP (by exact (b8 (dj gF (au 1) bg)<|au 2))))))))))))
abbrev zh(h:eQ)(x:af):Prop:=e_ h 2 "reached" ub x ["free","start"] 2 G.mW
def Nb(N:dq h.K h.az "reached" ub x ["free","start"])(S:dX h.az){b:af}(c:uj h b):zh h x:=by
 refine d1 M5 N λah Q O Tc j m Sv a=>?_;exact (bB (dz 2 ah<|yl (bY a) (fC<|c8 1) fj) (bB (dz 3 ah (f5 (by exact (a6<|au 1)))) (bB (oP 1000000 g4 (f_<|au 3) (bO (jH (Tp:=[0,1]) g4 rfl (eh<|aR<|b2 c a<|a6<|aR<|CQ jP jC vI yb Gs<|c8 3) (iG 4 ah) (bO<|eu (fc.hs<|oq (dn (hL<|bY a) (au 4) (au 0) rfl)<|qc<|dn (jZ<|bY a) (au 4) (au 2) rfl) (bB (i5 fj<|mG (c8 2) (fC<|c8 4)<|rK<|bY a)<|bO<|j0<|kV jP jC n1 n8 mV (c8 3)<|a6<|au 4) eR) ∅ tP)))<|bO<|cL<|ij jU rfl S.gB g0<|a6<|aR<|c7 (mT rfl<|bY a) S.nS m2<|a6<|au 2)))
abbrev G9(h:eQ)(x:af):Prop:=e_ h 2 "onward" vd x ["ahead","spot"] 2 G.oj
def Lu(N:dq h.K h.az "onward" vd x ["ahead","spot"])(S:dX h.az){c:af}(d:uj h c):G9 h x:=by
 refine d1 Ff N λah Q O Tc j m Sv a=>?_;exact (bB (dz 2 ah<|jL a (au 1) bg) (bB (eu (dn (hi<|bY a) (de a (au 1) bg) (aR<|jO rfl S.nO.choose_spec)<|dZ _) (bO (cL (f5 (by exact (a6 (hP (by exact (b8 (de a (au 0)<|au 2)<|aR<|jO rfl S.sT.choose_spec)))))))) eR) (bO (cL (iV gF (aR (f5 (by exact (a6 (hP (by exact (b8 (au 2)<|aR<|jO rfl S.nO.choose_spec))))))) (aR (oS (own:=["beside"]) (SV:=[0]) rfl (kn (dN vd) Ff (by decide +kernel)) ∅ (eh<|aR<|b2 d a<|a6<|au 2) (λb=>(d7 0)) (λb=>(lQ<|dn (hL<|bY a) (au 0) (au 1) rfl)) (λb=>(j_ (by exact (b8 (au 0)<|aR<|jO rfl S.nO.choose_spec)))))))))))
abbrev FR(h:eQ)(x:af):Prop:=e_ h 3 "search" x2 x ["ahead","a"] 2 G.rH
def Hy(N:dq h.K h.az "search" x2 x ["ahead","a"])(S:dX h.az){b:af}(c:G9 h b):FR h x:=by
 refine d1 Rm N λah Q O Tc j m Sv a=>?_;exact (bB (dz 2 ah (j_ (by exact (b8 (au 1)<|aR<|jO rfl S.sT.choose_spec)))) (bB (dz 3 ah<|yl (bY a) (fC<|c8 2) vn) (bB (dz 4 ah (f5 (by exact (a6<|au 2)))) (bB (oP 1000000 g4 (f_<|au 4) (bB (dz 5 ah (f5 (by exact p3))) (bB (jH (Tp:=[4,0,1]) g4 rfl (eh<|au 4) (iG 6 ah) (bO (jH (Tp:=[4,0,1]) g4 rfl (eh<|aR<|b2 c a<|b8 (au 0)<|au 6) (iG 7 ah) (bO<|eu (dn (jZ<|bY a) (au 7) (au 3) rfl) (bB (i5 (fC<|c8 6)<|mG (c8 3) (fC<|c8 7)<|rK<|bY a)<|bO<|j0<|kV jP jC n1 n8 mV (c8 5)<|a6<|au 7) eR) ∅ tP)) ∅ (vB ∅))<|bO<|dz 4 ah<|fC<|c8 5)))<|bO<|cL<|fC<|c8 3))))
abbrev B3(h:eQ)(x:af):Prop:=e_ h 1 "lay_way" yn x ["ahead","came","last"] 3 G.ry
def Ia(N:dq h.K h.az "lay_way" yn x ["ahead","came","last"])(S:dX h.az):B3 h x:=by
 refine d1 Hd N λah Q O Tc j m Sv a=>?_;exact (bB (dz 3 ah (j_ (by exact (b8 (au 2)<|aR<|jO rfl S.sT.choose_spec))))<|bO<|oP 1000000 g4 (dn zm (de a (au 1)<|au 3) (aR vn)<|dZ _)<|bB (eu (dn (hi<|bY a) (de a (au 3) bg) (aR<|jO rfl S.nO.choose_spec)<|dZ _) (bO<|i5 (jL a (de a (au 1)<|au 3) bg)<|mG (c8 0) (jL a (au 3) bg)<|rK<|bY a) eR)<|bO<|dz 3 ah<|jL a (au 1)<|au 3)
abbrev Fd(h:eQ)(x:af):Prop:=e_ h 1 "way_back" wd x ["ahead","a","last"] 3 G.pw
def Ri(N:dq h.K h.az "way_back" wd x ["ahead","a","last"])(S:dX h.az):Fd h x:=by
 refine d1 HX N λah Q O Tc j m Sv a=>?_;exact (bB (dz 3 ah (f5 (by exact (a6<|au 2))))<|bB (oP 1000000 g4 (dn (mv<|bY a) (de a (au 3)<|aR<|r8 hb) (au 1)<|dZ _)<|bO<|j0<|kV jP jC n1 n8 mV (c8 3)<|a6<|de a (au 0)<|de a (au 3)<|aR<|r8 hb)<|bO<|cL<|fC<|c8 3)
abbrev MU(h:eQ)(x:af):Prop:=e_ h 4 "barred" oZ x ["field","a","b"] 3 G.nH
def Ro(N:dq h.K h.az "barred" oZ x ["field","a","b"])(S:dX h.az){e:af}(f:uj h e){g:af}(d:FR h g){i:af}(k:B3 h i){l:af}(n:Fd h l):MU h x:=by
 refine d1 wK N λah Q O Tc j m Sv b=>?_;exact (bB (eu (fc.hs<|ih (dn (hi<|bY b) (au 1) (au 2)<|dZ _)<|j2<|dn (hL<|bY b) (au 2) (aR<|b2 f b<|a6<|au 1) rfl) (bO O5) eR) (bB (kC (a:=3) ah rfl (Or.inr rfl) (ij (DC rfl<|Ed b) rfl S.BA Cq (a6 (aR (gh ["cell"] [] (eh<|au 0) (λc=>(d7 0)) (λc=>(j_ (by exact (b8 (au 0)<|au 0)))))))) ∅) (bB (dz 4 ah (f5 (by exact p3))) (bB (kC (a:=5) ah rfl (Or.inr rfl) (b2 d b<|b8 (au 3)<|au 1) ∅) (bB (oP 1000000 g4 (dn (hL<|bY b) (hP (by exact (b8 (au 2)<|aR<|jO rfl S.nO.choose_spec))) (au 5) rfl) (bB (j0 (kV jP jC n1 n8 mV (c8 4) (a6 (de b (de b (au 5) (hP (by exact (b8 (au 2)<|aR<|jO rfl S.nO.choose_spec)))) bg)))) (bB (j0<|b2 k b<|h6 (au 3) (au 5)<|de b (au 4)<|aR<|r8 hb) (bO (kC (a:=5) ah rfl (Or.inr rfl) (b2 d b<|b8 (au 3)<|au 1) ∅))))) (bB (p7 (a:=6) (own:=["cell"]) (SV:=[5]) ah rfl (Or.inl rfl) rfl (kn (dN oZ) wK (by decide +kernel)) ∅ (eh<|au 0) (λc=>(d7 0)) (λc=>(lQ (fc.hs (oq (dn (hL<|bY b) (hP (by exact (b8 (au 0)<|aR<|jO rfl S.nO.choose_spec))) (au 1) rfl) (qc (dn (jZ<|bY b) (hP (by exact (b8 (au 0)<|aR<|jO rfl S.sT.choose_spec))) (au 1) rfl)))))) (λc=>(fC<|c8 0)) ∅) (bB (p7 (a:=7) (own:=["last"]) (SV:=[2,3,1]) ah rfl (Or.inl rfl) rfl (kn (dN oZ) wK (by decide +kernel)) ∅ (eh<|au 4) (λc=>(d7 0)) (λc=>zg) (λc=>(Hm rfl S.gB rfl S.Kj (a6 (dj gF (aR (f5 (by exact (a6<|au 1))))<|aR<|b2 n b<|h6 (au 2) (au 3)<|au 0)))) ∅) (bO (cL (j_ (by exact (b8 (aR<|ij jU rfl S.gB g0<|a6<|au 6)<|aR<|ij jU rfl S.gB g0<|a6<|aR<|c7 (mT rfl<|bY b) S.nS m2<|a6<|au 7))))))))))))
def MC(N:dq So az "is_floor" vw x ["thing"])(S:dX az){a:af}(aG:cg R l So az SA 3 "is_cell" jN a ["thing"] 1 G.iW){b:af}(c:cg R l So az SA 4 "is_rising" sQ b ["thing","is_kind"] 2 (G.r0 a)):
  cg R l So az SA 5 "is_floor" vw x ["thing"] 1 (G.q0 a):=by
 refine d1 Mk N λah Q O Tc j m Sv d=>?_;exact (bO<|cL<|b2 c d<|b8 (au 0)<|aR<|y2 rfl aG.m)
def JA(N:dq So az "is_field" rR x ["thing"])(S:dX az){b:af}(aG:cg R l So az SA 3 "is_cell" jN b ["thing"] 1 G.iW){c:af}(d:cg R l So az SA 5 "is_floor" vw c ["thing"] 1 (G.q0 b)){e:af}(f:cg R l So az SA 2 "reached" ub e ["free","start"] 2 G.mW){g:af}(h:cg R l So az SA 1 "lookup" oC g ["things"] 1 G.f9):
  cg R l So az SA 6 "is_field" rR x ["thing"] 1 (G.gQ b):=by
 refine d1 MH N λah Q O Tc j m Sv a=>?_;exact (bB (eu (fc.hs<|ih (gO<|f_<|aR<|b2 d a<|a6<|au 0)<|j2<|dn (hi<|bY a) (aR<|c7 fE S.ft fo<|a6<|au 0) bg<|dZ _) (bO<|cL fj) eR)<|bO<|cL<|gH (hi<|bY a) (aR<|c7 fE S.ft fo<|a6<|aR<|b2 f a<|b8 (aR<|b2 h a<|a6<|au 0)<|de a (au 0) bg) (aR<|c7 fE S.ft fo<|a6<|au 0)<|dZ _)
abbrev AP(h:eQ)(x:af):Prop:=e_ h 3 "parts" yg x ["floor"] 1 G.oO
def N6(N:dq h.K h.az "parts" yg x ["floor"])(S:dX h.az){c:af}(b:xG h c){d:af}(e:zh h d):AP h x:=by
 refine d1 KR N λah Q O Tc j m Sv a=>?_;exact (bB (dz 1 ah<|b2 b a<|a6<|au 0) (bB (dz 2 ah Fx) (bB (dz 3 ah (f5 (by exact p3))) (bB (jH (Tp:=[0]) g4 rfl (eh<|au 0) (iG 4 ah) (bO<|eu (dn (jZ<|bY a) (au 4) (au 2) rfl) (bB (dz 5 ah<|b2 e a<|b8 (au 1)<|au 4)<|bB (j0<|kV OI PySem.F.plainAttrs_dict zJ PySem.F.type_dict_update (IM<|bY a) (c8 2)<|a6<|aR<|b2 b a<|a6<|au 5)<|bO<|j0<|kV jP jC n1 n8 mV (c8 3)<|a6<|au 5) eR) ∅ (vB ∅))<|bO<|cL<|ij jU rfl S.gB g0<|a6<|au 3))))
def Kx(N:dq So az "is_walk" qB x ["field","thing"])(S:dX az){c:af}(aG:cg R l So az SA 3 "is_cell" jN c ["thing"] 1 G.iW){e:af}(f:cg R l So az SA 6 "is_field" rR e ["thing"] 1 (G.gQ c)){g:af}(h:cg R l So az SA 1 "lookup" oC g ["things"] 1 G.f9){i:af}(k:cg R l So az SA 2 "is_pair" n0 i ["thing"] 1 G.j8){n:af}(o:cg R l So az SA 1 "around" rZ n ["cell"] 1 G.i1):
  cg R l So az SA 7 "is_walk" qB x ["field","thing"] 2 (G.n3 c):=by
 refine d1 KS N λah Q O Tc j m Sv b=>?_;exact (bB (eu (fc.hs<|ih (gO<|f_<|aR<|b2 f b<|a6<|au 0)<|ih (gO<|f_<|aR<|l8 rfl S.lW my rfl S.gB g0<|au 1)<|j2<|dn (hi<|bY b) (aR<|c7 fE S.ft fo<|a6<|au 1) bg<|dZ _) (bO<|cL fj) eR) (bB (kC (a:=2) ah rfl (Or.inr rfl) (b2 h b<|a6<|au 0) ∅)<|bB (eu (gO<|f_<|aR<|c7 (jg rfl) S.i8 jd<|a6<|aR<|gh ["cell"] [2] (eh<|au 1) (λd=>(d7 0))<|λd=>(g5 (eC<|b2 k b<|a6<|au 0)<|eC<|kR<|gH (hL<|bY b) (au 0) (au 1) rfl)) (bO<|cL fj) eR)<|bO<|cL<|c7 (jg rfl) S.i8 jd<|a6<|aR<|gh ["ahead" ,"behind"] [] (vh rfl S.ux<|b8 (au 1)<|aR<|pT (au 1) (m4 hb) rM) (λd=>(lY (d7 0)<|d7 1))<|λd=>(gH (hL<|bY b) (au 1) (aR<|b2 o b<|a6<|au 0) rfl)))
def Jf(N:dq So az "can_be_barred" vy x ["field","a","b"])(S:dX az){b:af}(aG:cg R l So az SA 3 "is_cell" jN b ["thing"] 1 G.iW){d:af}(e:cg R l So az SA 6 "is_field" rR d ["thing"] 1 (G.gQ b)){f:af}(c:cg R l So az SA 3 "is_of" sG f ["field","thing"] 2 G.oM){g:af}(h:cg R l So az SA 1 "around" rZ g ["cell"] 1 G.i1):
  cg R l So az SA 7 "can_be_barred" vy x ["field","a","b"] 3 (G.oG b):=by
 refine d1 Ju N λah Q O Tc j m Sv a=>?_;exact (bO<|cL<|g5 (eC<|b2 e a<|a6<|au 0)<|g5 (eC<|b2 c a<|b8 (au 0)<|au 1)<|g5 (eC<|b2 c a<|b8 (au 0)<|au 2)<|g5 (eC<|gH (mv<|bY a) (au 1) (au 2)<|dZ _)<|eC<|kR<|gH (jZ<|bY a) (au 2) (aR<|b2 h a<|a6<|au 1) rfl)
abbrev NL(h:eQ)(x:af):Prop:=e_ h 3 "do_bar" qd x ["field","a","b","cells"] 4 G.p2
def P8(N:dq h.K h.az "do_bar" qd x ["field","a","b","cells"])(S:dX h.az){e:af}(c:xG h e){f:af}(g:zh h f):NL h x:=by
 refine d1 GY N λah Q O Tc j m Sv b=>?_;exact (bB (kC (a:=4) ah rfl (Or.inr rfl) (b2 c b<|a6<|au 3) ∅) (bB (eu (fc.hs<|ih (dn (hL<|bY b) (au 1) (au 4) rfl)<|j2<|dn (hL<|bY b) (au 2) (au 4) rfl) (bO<|cL fj) eR) (bO (cL (gH (jZ<|bY b) (au 2) (aR (b2 g b (b8 (aR (b2 c b (a6 (aR (oS (own:=["cell"]) (SV:=[4]) rfl (kn (dN qd) GY (by decide +kernel)) ∅ (eh<|au 0) (λd=>(d7 0)) (λd=>(lQ<|dn (jZ<|bY b) (au 0) (au 1) rfl))<|λd=>(fC<|c8 0))))))<|au 1))) rfl)))))
def QF(N:dq So az "are_ways_apart" uu x ["field","a","b","ways"])(S:dX az){b:af}(aG:cg R l So az SA 3 "is_cell" jN b ["thing"] 1 G.iW){c:af}(d:cg R l So az SA 7 "is_walk" qB c ["field","thing"] 2 (G.n3 b)){e:af}(f:cg R l So az SA 1 "lookup" oC e ["things"] 1 G.f9):
  cg R l So az SA 8 "are_ways_apart" uu x ["field","a","b","ways"] 4 (G.px b):=by
 refine d1 Ms N λah Q O Tc j m Sv a=>?_;exact (bB (dz 4 ah (f5 (by exact (b8 (au 1)<|au 2)))) (bB (jH (Tp:=[0,1,2,3]) g4 rfl (eh<|au 3) (iG 5 ah) (bB (eu (fc.hs<|ih (gO<|f_<|aR<|b2 d a<|b8 (au 0)<|au 5)<|ih (dn (mv<|bY a) (de a (au 5) bg) (au 1)<|dZ _)<|j2<|dn (mv<|bY a) (de a (au 5)<|aR<|r8 hb) (au 2)<|dZ _) (bO<|cL fj) eR)<|bO<|j0<|kV jP jC PySem.F.slot_list_extend PySem.F.type_list_extend KQ (c8 4)<|a6<|aR<|pT (au 5) (m4 hb)<|m4<|r8 hb) ∅ (vB ∅))<|bO<|cL<|gH (hi<|bY a) (aR<|c7 Rn S.ft fo<|a6<|aR<|b2 f a<|a6<|au 4) (aR<|c7 fE S.ft fo<|a6<|au 4)<|dZ _))
def RW(N:dq So az "shows_barred" uI x ["field","a","b","cells","ways"])(S:dX az){b:af}(aG:cg R l So az SA 3 "is_cell" jN b ["thing"] 1 G.iW){c:af}(e:cg R l So az SA 2 "is_pair" n0 c ["thing"] 1 G.j8){d:af}(f:cg R l So az SA 3 "is_way_like" oX d ["thing"] 1 G.nB){g:af}(h:cg R l So az SA 7 "can_be_barred" vy g ["field","a","b"] 3 (G.oG b)){i:af}(k:cg R l So az SA 3 "is_rising" s8 i ["thing","is_kind"] 2 (G.pD c)){n:af}(o:cg R l So az SA 4 "is_rising" uG n ["thing","is_kind"] 2 (G.p0 d)){p:af}(q:cg R l So az SA 3 "do_bar" qd p ["field","a","b","cells"] 4 G.p2){r:af}(s:cg R l So az SA 8 "are_ways_apart" uu r ["field","a","b","ways"] 4 (G.px b)):
  cg R l So az SA 9 "shows_barred" uI x ["field","a","b","cells","ways"] 5 (G.pd b c d):=by
 refine d1 J9 N λah Q O Tc j m Sv a=>?_;exact (bB (eu (fc.hs<|ih (gO<|f_<|aR<|b2 h a<|h6 (au 0) (au 1)<|au 2)<|ih (gO<|f_<|aR<|b2 k a<|b8 (au 3)<|aR<|y2 rfl e.m)<|j2<|gO<|f_<|aR<|b2 o a<|b8 (au 4)<|aR<|y2 rfl f.m) (bO<|cL fj) eR) (bO (cL (g5 (eC<|gH (hi<|bY a) (aR<|c7 fE S.ft fo<|a6<|au 3) (aR<|c7 fE S.ft fo<|a6<|au 4)<|dZ _) (g5 (eC (b2 q a (kh (au 0) (by exact (h6 (au 1) (au 2)<|au 3))))) (eC (kR (b2 s a (kh (au 0) (by exact (h6 (au 1) (au 2)<|au 4)))))))))))
abbrev HF(h:eQ)(x:af):Prop:=e_ h 1 "_law_left" uv x ["_law_script","_law_turn"] 2 G.mU
def IL(N:dq h.K h.az "_law_left" uv x ["_law_script","_law_turn"])(S:dX h.az):HF h x:=by
 refine d1 IE N λah Q O Tc j m Sv a=>?_;exact (bB (dz 2 ah<|iV gF bg<|dj kK bg<|au 1) (bB (jH (Tp:=[0,1]) g4 rfl (eh<|aR<|pT (au 0) rM<|m4 hb) (iG 3 ah) (bO<|dz 2 ah<|iV iI (dj gF (dj gF (dj kK (au 2) bg)<|dj iI (au 3) bg) bg) bg) ∅ tP) (bB (dz 3 ah<|Lp (dn xH (aR<|c7 fE S.ft fo<|a6<|au 0) bg<|dZ _) (jL a (au 0)<|dj iI (au 1)<|aR<|c7 fE S.ft fo<|a6<|au 0) hb) (bB (dz 4 ah<|iV kK (dj kK (dj sq bg bg)<|dj sq bg bg)<|dj sq bg bg) (bO (cL (f5 (by exact (h6 (dj kK (dj iI (au 3)<|au 4)<|aR<|ij LQ rfl S.Dv Ft<|a6<|aR<|gH OR (au 3) (dj sq bg bg)<|dZ _) (au 2) bg)))))))))
abbrev tQ(h:eQ)(x:af):Prop:=e_ h 1 "_law_pick" vJ x ["_law_left_here","_law_many"] 2 G.fQ
def MS(N:dq h.K h.az "_law_pick" vJ x ["_law_left_here","_law_many"])(S:dX h.az):tQ h x:=by
 refine d1 L8 N λah Q O Tc j m Sv a=>?_;exact (bB (eu (dn xH (de a (au 0) bg) bg<|dZ _) (bB (dz 2 ah<|iV iI (de a (au 0) bg)<|au 1)<|bB (i5 (iV qC (de a (au 0) bg)<|au 1)<|mG (c8 0) hb<|zf<|bY a)<|bO<|cL<|fC<|c8 2) eR)<|bB (i5 (iV gF (de a (au 0) bg) bg)<|mG (c8 0) hb<|zf<|bY a)<|bB (dz 3 ah<|iV iI (dj kK (dj gF (de a (au 0) bg)<|dj kK (de a (au 0) bg) bg) bg) bg)<|bB (i5 (iV iI (dj kK (au 3)<|dj gF (dj iI (au 3) bg) bg) bg)<|mG (c8 0) hb<|zf<|bY a)<|bO<|cL<|iV iI (dj qC (de a (au 0) bg) bg)<|au 1)
abbrev tu(h:eQ)(x:af):Prop:=e_ h 1 "_law_beside" vK x ["_law_cell"] 1 G.mH
def QL(N:dq h.K h.az "_law_beside" vK x ["_law_cell"])(S:dX h.az):tu h x:=by
 refine d1 NU N λah Q O Tc j m Sv a=>?_;exact (bO (cL (f5 (by exact (kh (hP (by exact (b8 (dj uy (de a (au 0) bg) bg)<|de a (au 0) bg))) (by exact (h6 (hP (by exact (b8 (de a (au 0) bg)<|dj uy (de a (au 0) bg) bg))) (hP (by exact (b8 (de a (au 0) bg)<|dj gF (de a (au 0) bg) bg))) (hP (by exact (b8 (dj gF (de a (au 0) bg) bg)<|de a (au 0) bg))))))))))
abbrev Ep(h:eQ)(x:af):Prop:=e_ h 2 "_law_part" v9 x ["_law_some","_law_begin"] 2 G.sx
def Kk(N:dq h.K h.az "_law_part" v9 x ["_law_some","_law_begin"])(S:dX h.az){b:af}(c:tu h b):Ep h x:=by
 refine d1 I2 N λah Q O Tc j m Sv a=>?_;exact (bB (dz 2 ah (ij (DC rfl<|Ed a) rfl S.BA Cq (a6 (aR (gh ["_law_cell"] [] (eh<|au 0) (λd=>(d7 0)) (λd=>(j_ (by exact (b8 (au 0)<|aR fj))))))))) (bB (dz 3 ah<|yl (bY a) (fC<|c8 1) fj) (bB (dz 4 ah (f5 (by exact (a6<|au 1)))) (bB (oP 1000000 g4 (dn (mv<|bY a) (au 4) (aR (f5 (by exact p3)))<|dZ _) (bO (jH (Tp:=[0,1]) g4 rfl (eh<|aR<|b2 c a<|a6<|aR<|CQ jP jC vI yb Gs<|c8 4) (iG 5 ah) (bO<|eu (fc.hs<|oq (dn (hL<|bY a) (au 5) (au 2) rfl)<|qc<|dn (jZ<|bY a) (au 5) (au 3) rfl) (bB (i5 fj<|mG (c8 3) (fC<|c8 5)<|rK<|bY a)<|bO<|j0<|kV jP jC n1 n8 mV (c8 4)<|a6<|au 5) eR) ∅ tP)))<|bO<|cL<|ij jU rfl S.gB g0<|a6<|aR<|c7 (mT rfl<|bY a) S.nS m2<|a6<|au 3))))
abbrev Dz(h:eQ)(x:af):Prop:=e_ h 2 "_law_grown" xp x ["_law_left_here","_law_most"] 2 G.oo
def Ic(N:dq h.K h.az "_law_grown" xp x ["_law_left_here","_law_most"])(S:dX h.az){c:af}(b:tQ h c){d:af}(e:tu h d):Dz h x:=by
 refine d1 K7 N λah Q O Tc j m Sv a=>?_;exact (bB (dz 2 ah (f5 (by exact (a6 (hP (by exact (b8 bg bg))))))) (bB (jH (Tp:=[0,1]) g4 rfl (rt rfl S.qf<|a6<|aR<|b2 b a<|b8 (au 0)<|au 1) (iG 3 ah) (bB (dz 4 ah<|jL a (aR<|b2 e a<|a6<|de a (au 2)<|aR<|b2 b a<|b8 (au 0)<|aR<|c7 fE S.ft fo<|a6<|au 2)<|aR<|b2 b a<|b8 (au 0) bg)<|bO<|eu (fc.hs<|oq (dn (jZ<|bY a) (au 4) (au 2) rfl)<|oq (D1 mh mh bg (de a (au 4) bg) bg)<|qc<|D1 mh mh bg (de a (au 4) bg) bg) (bO<|j0<|kV jP jC n1 n8 mV (c8 2)<|a6<|au 4) eR) ∅ yU)<|bO<|cL<|fC<|c8 2))
abbrev PU(h:eQ)(x:af):Prop:=e_ h 3 "_law_field" o6 x ["_law_left_here","_law_most"] 2 G.oT
def Iz(N:dq h.K h.az "_law_field" o6 x ["_law_left_here","_law_most"])(S:dX h.az){e:af}(d:tQ h e){f:af}(g:Dz h f){i:af}(k:Ep h i):PU h x:=by
 refine d1 za N λah Q O Tc j m Sv b=>?_;exact (bB (dz 2 ah<|b2 d b<|b8 (au 0) bg) (bB (kC (a:=3) ah rfl (Or.inr rfl) (iV gF bg<|aR<|b2 d b<|b8 (au 0) bg) ∅) (bB (dz 4 ah<|iV gF bg<|aR<|b2 d b<|b8 (au 0)<|aR<|c7 (HD rfl<|bY b) S.H2 H7<|b8 bg<|aR<|c7 (Ml rfl<|bY b) S.PC Qg<|b8 bg<|dj qC (au 1)<|au 3) (bB (p7 (a:=5) (own:=["_law_k"]) (SV:=[3]) ah rfl (Or.inl rfl) rfl (kn (dN o6) za (by decide +kernel)) ∅ (rt rfl S.qf<|a6<|dj kK (au 4)<|au 3) (λc=>(d7 0)) (λc=>zg) (λc=>(j_ (by exact (b8 (dj qC (au 0)<|au 1)<|dj iI (au 0)<|au 1)))) ∅) (bB (eu (fc.hs<|ih (dn (hi<|bY b) (au 2) bg<|dZ _)<|j2<|dn (hi<|bY b) (au 2) bg<|dZ _) (bO (jH (Tp:=[0,1]) g4 rfl (rt rfl S.qf<|a6<|aR<|b2 d b<|b8 (au 0)<|dj gF bg<|dj qC (aR<|c7 fE S.ft fo<|a6<|au 5) bg) (iG 6 ah) (bO<|j0<|kV jP jC vI yb K3 (c8 5)<|a6<|aR<|b2 d b<|b8 (au 0)<|aR<|c7 fE S.ft fo<|a6<|au 5) ∅ yU)) (bO (eu (dn (hi<|bY b) (au 2) bg<|dZ _) (bO (p7 (a:=5) (own:=["_law_cell"]) (SV:=[]) ah rfl (Or.inl rfl) rfl (kn (dN o6) za (by decide +kernel)) ∅ (eh<|au 5) (λc=>(d7 0)) (λc=>(lQ<|dn (hi<|bY b) (dj kK (dj iI (de b (au 0) bg) bg)<|dj iI (dj iI (de b (au 0) bg) bg) bg) bg<|dZ _)) (λc=>(fC<|c8 0)) ∅))<|bO<|eu (dn xH (au 2) bg<|dZ _) (bO<|dz 5 ah<|b2 g b<|b8 (au 0)<|au 1) eR))) (bB (dz 7 ah<|b2 k b<|b8 (au 5)<|de b (au 5)<|aR<|b2 d b<|b8 (au 0)<|aR<|c7 fE S.ft fo<|a6<|au 5) (bB (i5 (gh ["_law_k"] [0] (rt rfl S.qf<|a6 bg) (λc=>(d7 0)) (λc=>(jL b (aR (f5 (by exact (kh bg (by exact (h6 bg bg bg))))))<|aR<|b2 d b<|b8 (au 1) bg))) (OG rfl (tX (lM (a:=8) ah rfl (Or.inr rfl) ∅) (tX (lM (a:=9) ah rfl (Or.inr rfl) ∅) Cd)))) (bO (cL (ij jU rfl S.gB g0 (a6 (aR (gh ["_law_cell"] [8,9] (eh<|au 7) (λc=>(d7 0)) (λc=>(j_ (by exact (b8 (dj gF (de b (au 0) bg)<|au 1)<|dj gF (de b (au 0) bg)<|au 2)))))))))))))))))
abbrev K2(h:eQ)(x:af):Prop:=e_ h 2 "_law_apart" qI x ["_law_left_here","_law_field_here"] 2 G.nI
def MZ(N:dq h.K h.az "_law_apart" qI x ["_law_left_here","_law_field_here"])(S:dX h.az){e:af}(c:tQ h e){f:af}(g:tu h f):K2 h x:=by
 refine d1 FO N λah Q O Tc j m Sv b=>?_;exact (bB (kC (a:=2) ah rfl (Or.inr rfl) (jL b (au 1)<|aR<|b2 c b<|b8 (au 0)<|aR<|c7 fE S.ft fo<|a6<|au 1) ∅) (bB (p7 (a:=3) (own:=["_law_cell"]) (SV:=[2]) ah rfl (Or.inl rfl) rfl (kn (dN qI) FO (by decide +kernel)) ∅ (eh<|au 1) (λd=>(d7 0)) (λd=>(lQ<|fc.hs<|oq (dn (mv<|bY b) (au 0) (au 1)<|dZ _)<|qc<|dn (jZ<|bY b) (au 0) (aR<|b2 g b<|a6<|au 1) rfl)) (λd=>(fC<|c8 0)) ∅) (bB (eu (dn (hi<|bY b) (au 3) (aR (f5 (by exact p3)))<|dZ _) (bO<|cL vn) eR) (bO (cL (j_ (by exact (b8 (au 2)<|de b (au 3)<|aR<|b2 c b<|b8 (au 0)<|aR<|c7 fE S.ft fo<|a6<|au 3))))))))
abbrev Hx(h:eQ)(x:af):Prop:=e_ h 4 "_law_together" vD x ["_law_some","_law_a","_law_b"] 3 G.pj
def RG(N:dq h.K h.az "_law_together" vD x ["_law_some","_law_a","_law_b"])(S:dX h.az){b:af}(c:AP h b):Hx h x:=by
 refine d1 Gt N λah Q O Tc j m Sv a=>?_;exact (bO<|cL<|c7 (Lb rfl) S.Pg Na<|a6<|aR<|gh ["_law_part_here"] [1,2] (eh<|aR<|b2 c a<|a6<|aR<|ij jU rfl S.gB g0<|a6<|au 0) (λd=>(d7 0))<|λd=>(g5 (eC<|gH (hL<|bY a) (au 1) (au 0) rfl)<|eC<|kR<|gH (hL<|bY a) (au 2) (au 0) rfl))
abbrev I8(h:eQ)(x:af):Prop:=e_ h 1 "_law_turned" ts x ["_law_cells"] 1 G.l4
def Rp(N:dq h.K h.az "_law_turned" ts x ["_law_cells"])(S:dX h.az):I8 h x:=by
 refine d1 Jn N λah Q O Tc j m Sv b=>?_;exact (bO (cL (ij jU rfl S.gB g0 (a6 (aR (gh ["_law_row" ,"_law_column"] [] (eh<|au 0) (λa=>(lY (d7 0)<|d7 1)) (λa=>(j_ (by exact (b8 (au 1)<|au 0))))))))))
def P5(N:dq So az "law" vz x ["_law_script"])(S:dX az){d:af}(aG:cg R l So az SA 3 "is_cell" jN d ["thing"] 1 G.iW){f:af}(A:cg R l So az SA 2 "is_pair" n0 f ["thing"] 1 G.j8){g:af}(B:cg R l So az SA 3 "is_way_like" oX g ["thing"] 1 G.nB){k:af}(n:cg R l So az SA 1 "_law_left" uv k ["_law_script","_law_turn"] 2 G.mU){o:af}(p:cg R l So az SA 3 "_law_field" o6 o ["_law_left_here","_law_most"] 2 G.oT){q:af}(r:cg R l So az SA 2 "_law_apart" qI q ["_law_left_here","_law_field_here"] 2 G.nI){s:af}(h:cg R l So az SA 4 "barred" oZ s ["field","a","b"] 3 G.nH){t:af}(i:cg R l So az SA 4 "_law_together" vD t ["_law_some","_law_a","_law_b"] 3 G.pj){u:af}(v:cg R l So az SA 7 "is_walk" qB u ["field","thing"] 2 (G.n3 d)){w:af}(e:cg R l So az SA 1 "_law_turned" ts w ["_law_cells"] 1 G.l4){y:af}(z:cg R l So az SA 9 "shows_barred" uI y ["field","a","b","cells","ways"] 5 (G.pd d f g)):
  cg R l So az SA 10 "law" vz x ["_law_script"] 1 (G.ow d f g):=by
 refine d1 C7 N λah Q O Tc j m Sv b=>?_;exact (bB (jH (Tp:=[0]) g4 rfl (rt rfl S.qf<|a6 bg) (iG 1 ah) (bB (dz 2 ah<|b2 n b<|b8 (au 0)<|au 1) (bB (kC (a:=3) ah rfl (Or.inr rfl) (b2 p b<|b8 (au 2) bg) ∅) (bB (dz 4 ah<|b2 r b<|b8 (au 2)<|au 3) (bO (eu (dn zm (au 4) (aR vn)<|dZ _) (bB (i5 (fC<|c8 4) (lY (lM (a:=5) ah rfl (Or.inr rfl) ∅) (lM (a:=6) ah rfl (Or.inr rfl) ∅))) (bB (i5 (b2 h b<|h6 (au 3) (au 5)<|au 6) (lY (lM (a:=7) ah rfl (Or.inr rfl) ∅) (lM (a:=8) ah rfl (Or.inr rfl) ∅))) (bB (kC (a:=9) ah rfl (Or.inr rfl) (oS (own:=["_law_cell"]) (SV:=[7]) rfl (kn (dN vz) C7 (by decide +kernel)) ∅ (eh<|au 3) (λc=>(d7 0)) (λc=>(lQ<|dn (jZ<|bY b) (au 0) (au 1) rfl))<|λc=>(fC<|c8 0)) ∅) (bB (eu (fc.hs<|ih (f_<|aR<|b2 i b<|h6 (au 9) (au 5)<|au 6)<|j2<|dn (mv<|bY b) (aR<|c7 fE S.ft fo<|a6<|au 7) (aR<|c7 fE S.ft fo<|a6<|au 8)<|dZ _) (bO<|cL fj) eR) (bB (eu (gO (f_ (aR (c7 (jg rfl) S.i8 jd (a6 (aR (gh ["_law_cell"] [9,5,6] (eh<|au 7) (λc=>(d7 0)) (λc=>(b2 i b (h6 (aR (c7 (mT rfl<|bY b) S.nS m2 (a6 (dj gF (au 1) (aR (f5 (by exact (a6<|au 0)))))))) (au 2)<|au 3)))))))))) (bO<|cL fj) eR) (bB (eu (gO (f_ (aR (c7 (jg rfl) S.i8 jd (a6 (aR (gh ["_law_way"] [3,7] (eh<|au 8) (λc=>(d7 0)) (λc=>(g5 (eC<|b2 v b<|b8 (au 1)<|au 0) (eC (kR (gH (hi<|bY b) (aR (c7 fE S.ft fo (a6 (aR (oS (own:=["_law_cell"]) (SV:=[2]) rfl (A0 (by with_unfolding_all rfl)) ∅ (eh<|au 0) (λc=>(d7 0)) (λc=>(lQ<|dn (hL<|bY b) (au 0) (au 1) rfl))<|λc=>(fC<|c8 0)))))) bg<|dZ _)))))))))))) (bO<|cL fj) eR) (bB (eu (gO (f_ (aR (c7 (jg rfl) S.i8 jd (a6 (aR (gh ["_law_cell"] [8] (eh<|au 7) (λc=>(lM (a:=0) (show (["_law_cell" ,"_law_ways"]:List aD).Nodup by decide +kernel) rfl (Or.inr rfl) ∅)) (λc=>(gH (hi<|bY b) (aR (c7 fE S.ft fo (a6 (aR (oS (own:=["_law_way"]) (SV:=[0]) rfl (A0 (by with_unfolding_all rfl)) ∅ (eh<|au 1) (λc=>(d7 0)) (λc=>(lQ<|dn (hL<|bY b) (au 1) (au 0) rfl))<|λc=>(fC<|c8 0)))))) bg<|dZ _))))))))) (bO<|cL fj) eR) (bB (dz 10 ah<|ij jU rfl S.gB g0<|a6<|aR<|c7 (mT rfl<|bY b) S.nS m2<|a6<|aR<|b2 e b<|a6<|au 3) (bB (i5 (b2 e b (a6 (aR (f5 (by exact (b8 (au 5)<|au 6))))))<|lY (iG 11 ah)<|iG 12 ah) (bB (eu (dn (mv<|bY b) (aR<|c7 fE S.ft fo<|a6<|de b (aR<|b2 h b<|h6 (au 10) (au 11)<|au 12) bg) (aR<|c7 fE S.ft fo<|a6<|au 7)<|dZ _) (bO<|cL fj) eR) (bB (dz 13 ah<|ij jU rfl S.gB g0<|a6<|aR<|c7 (mT rfl<|bY b) S.nS m2<|a6<|aR<|gh ["_law_way"] [] (eh<|au 8) (λc=>(d7 0))<|λc=>(b2 e b<|a6<|au 0)) (bO (eu (dn zm (aR (b2 z b (kh (au 10) (by exact (kh (au 11) (by exact (h6 (au 12) (aR<|ij jU rfl S.gB g0<|a6<|aR<|c7 (mT rfl<|bY b) S.nS m2<|a6<|aR<|b2 e b<|a6<|au 7)<|au 13))))))) (aR fj)<|dZ _) (bO<|cL fj) eR))))))))))))) eR))))) ∅ yU)<|bO<|cL fj)
end
def all_mk{l:bk}{So:Φ}{e:a5}{az:aD->Option ae}{ej z A B C D E F H I J L M N O P Q T U al am an ap as a1 a2 bd be bi bm bn bs:af}(b:So.In e)(a:e.Ns dJ az)(bv:az "law" = Z (.ref ej)){r s u:iu}(ca:c3 So "is_whole" zE z)(cd:c3 So "is_pair" n0 n)(ce:c3 So "is_of" sG A)(ch:c3 So "is_cell" jN t)(ci:c3 So "is_rising" sQ B)(cl:c3 So "is_way_like" oX i)(co:c3 So "is_rising" uG C)(cr:c3 So "is_rising" s8 D)(cs:c3 So "lookup" oC E)(db:c3 So "around" rZ F)(ds:c3 So "reached" ub H)(dL:c3 So "onward" vd I)(eq:c3 So "search" x2 J)(ev:c3 So "lay_way" yn L)(ex:c3 So "way_back" wd M)(fn:c3 So "barred" oZ N)(fr:c3 So "is_floor" vw O)(f0:c3 So "is_field" rR P)(f1:c3 So "parts" yg Q)(f2:c3 So "is_walk" qB T)(f4:c3 So "can_be_barred" vy U)(f8:c3 So "do_bar" qd al)(ga:c3 So "are_ways_apart" uu am)(ge:c3 So "shows_barred" uI an)(gl:c3 So "_law_left" uv ap)(go:c3 So "_law_pick" vJ as)(gt:c3 So "_law_beside" vK a1)(g1:c3 So "_law_part" v9 a2)(g2:c3 So "_law_grown" xp bd)(g3:c3 So "_law_field" o6 be)(hd:c3 So "_law_apart" qI bi)(he:c3 So "_law_together" vD bm)(hf:c3 So "_law_turned" ts bn)(w:c3 So "law" vz bs)(hm:Ψ So dJ "GREATEST" = Z (Z<|.int 30 r))(hw:Ψ So dJ "IN" = Z (Z<|.str "in" s))(h0:Ψ So dJ "OUT" = Z (Z<|.str "out" u))(ii:Ψ So dJ "all" = Z Y)(im:Ψ So dJ "any" = Z Y)(io:Ψ So dJ "bool" = Z Y)(it:Ψ So dJ "dict" = Z Y)(jp:Ψ So dJ "int" = Z Y)(kt:Ψ So dJ "isinstance" = Z Y)(kw:Ψ So dJ "len" = Z Y)(lc:Ψ So dJ "max" = Z Y)(lf:Ψ So dJ "min" = Z Y)(li:Ψ So dJ "range" = Z Y)(lm:Ψ So dJ "reversed" = Z Y)(ln:Ψ So dJ "sorted" = Z Y)(ls:Ψ So dJ "tuple" = Z Y)(lv:Ψ So dJ "zip" = Z Y):
  ∃fd:gp,(∀(j:ao) (v:ae),lT j fd ⟨[v],[]⟩ [("_law_script",v)])/\∀SA:a5,So.In SA->SA.Ns dJ az->hC k.prog l So az SA hE 10 ej fd ["_law_script"] (jM 1<|G.ow t n i):=by
 have S:dX az:=⟨ik b a ii,ik b a im,ik b a io,ik b a it,ik b a jp,ik b a kt,ik b a kw,ik b a lc,ik b a lf,ik b a li,ik b a lm,ik b a ln,ik b a ls,ik b a lv,⟨r,lq b a hm⟩,⟨s,lq b a hw⟩,⟨u,lq b a h0⟩⟩;refine Oy w b a bv (λ_ K K K K K K K=>.of_eq rfl) λSA=>?_;let h:eQ:=⟨k.prog,l,So,az,SA⟩
 have lw:=P7 (h:=h) (ca.dp b a) S;have d:=OY (h:=h) (cd.dp b a) S lw;have mb:=Qb (h:=h) (ce.di b a) S d;have c:=Ph (h:=h) (ch.dp b a) S d;have mo:=NV (R:=k.prog) (l:=l) (SA:=SA) (ci.di b a) S c;have m:=Qf (h:=h) (cl.dp b a) S d;have mp:=K_ (R:=k.prog) (l:=l) (SA:=SA) (co.di b a) S m;have ms:=Oq (R:=k.prog) (l:=l) (SA:=SA) (cr.di b a) S d;have f:=HU (h:=h) (cs.dp b a) S;have g:=Pz (h:=h) (db.dp b a) S;have o:=Nb (h:=h) (ds.di b a) S g;have m0:=Lu (h:=h) (dL.di b a) S g;have na:=Hy (h:=h) (eq.di b a) S m0;have nb:=Ia (h:=h) (ev.nd b a) S;have ne:=Ri (h:=h) (ex.nd b a) S;have nl:=Ro (h:=h) (fn.nd b a) S g na nb ne;have nm:=MC (R:=k.prog) (l:=l) (SA:=SA) (fr.dp b a) S c mo;have x:=JA (R:=k.prog) (l:=l) (SA:=SA) (f0.dp b a) S c nm o f;have nn:=N6 (h:=h) (f1.dp b a) S f o;have y:=Kx (R:=k.prog) (l:=l) (SA:=SA) (f2.di b a) S c x f d g;have no:=Jf (R:=k.prog) (l:=l) (SA:=SA) (f4.nd b a) S c x mb g;have np:=P8 (h:=h) (f8.lL b a) S f o;have ns:=QF (R:=k.prog) (l:=l) (SA:=SA) (ga.lL b a) S c y f;have nw:=RW (R:=k.prog) (l:=l) (SA:=SA) (ge.mB b a) S c d m no ms mp np ns;have of:=IL (h:=h) (gl.di b a) S;have p:=MS (h:=h) (go.di b a) S;have q:=QL (h:=h) (gt.dp b a) S;have ok:=Kk (h:=h) (g1.di b a) S q;have ol:=Ic (h:=h) (g2.di b a) S p q;have on:=Iz (h:=h) (g3.di b a) S p ol ok;have op:=MZ (h:=h) (hd.di b a) S p q;have o0:=RG (h:=h) (he.nd b a) S nn;have pc:=Rp (h:=h) (hf.dp b a) S;exact P5 (w.dp b a) S c d m of on op nl o0 y pc nw
def walk{r:bA}{b:List aD}{c:(aD->Option ae)->a5->Prop}{a:bk->a5->Prop}{s:DefRec}{So:sW->Φ}(f:k.most=Z 63)(h:s.params.defaults=[])(u:∀(l:bk) (e:a5),a l e->(So l.params).In e)(v:∀q,rL (So q)=X)(N:∀(l:bk) (az:aD->Option ae) (ej:af) (e:a5),(So l.params).In e->e.Ns dJ az->az s.name=Z (.ref ej)->
   ∃fd:gp,(∀(j:ao) (L:ae),lT j fd ⟨[L],[]⟩ [("_law_script",L)])/\∀SA:a5,(So l.params).In SA->SA.Ns dJ az->hC k.prog l (So l.params) az SA hE 10 ej fd ["_law_script"] (jM 1<|G.ow t n i)):
  PySem.W.WalkO r b c a k.row.toRowW s [] (λx Sp=>PySem.call x Sp):=
 L2.LO (p:=63) (o:=10) (d := "_law_script") (F:=λ_=>hE) (TC:=λl=>jM 1<|G.ow t n i) f ∅ h ⟨rfl,by decide,by decide,rfl⟩ u N (λl m g Q w y z=>Lg (v l.params) m g Q y z (G.PR t n i Q (DV w ∅))) λ_ U U U U A=>A
end K36
namespace PySem.W.Fast
def tw5488468851400503403:=(0)
def tw11946226258139679872:=(0)
def tw17161599900035626336:=(0)
def tw8019346684726440416:=(0)
def tw17200251308463645248:=(0)
def tw5218303632345257728:=(0)
def tw14480001415419539264:=(0)
def tw13484328781473059744:=(0)
def tw14112050006760396704:=(0)
def tw14929343534271150016:=(0)
def tw16373943654038815777:=(0)
def tw4021823791418930305:=(0)
def tw8009540303766929569:=(0)
def tw2395694425514158561:=(0)
def tw5102018692177156769:=(0)
def tw7642397699714696033:=(0)
def tw13542231944435483842:=(0)
def tw15945017454622712130:=(0)
def tw9719089254638213506:=(0)
def tw9278117952476561954:=(0)
def tw17646855458208375426:=(0)
def tw16798360064847056610:=(0)
def tw17221691718204029858:=(0)
def tw12020741533274956706:=(0)
def tw17143652519925583875:=(0)
def tw12744379399714384003:=(0)
def tw17038336313901899363:=(0)
def tw895804377223022339:=(0)
def tw12359485390514328419:=(0)
def tw18211802785410993540:=(0)
def tw965903197449389668:=(0)
def tw380124411768722148:=(0)
def tw9618682267230928197:=(0)
def tw7350583132990621253:=(0)
def tw4950155346674295493:=(0)
def tw13510443289958969926:=(0)
def tw4883808119621534374:=(0)
def tw7166421198816040870:=(0)
def tw13749162109655114726:=(0)
def tw5878693992795564071:=(0)
def tw12641756956663408903:=(0)
def tw2338942705931032839:=(0)
def tw8877993567607178503:=(0)
def tw736380060415398375:=(0)
def tw1785213922945594983:=(0)
def tw2616318312610750215:=(0)
def tw10669061375580727592:=(0)
def tw6800083280125787528:=(0)
def tw1686637373485298152:=(0)
def tw10035919839730858632:=(0)
def tw11282226568817912648:=(0)
def tw15360649288237317641:=(0)
def tw15520794149161706345:=(0)
def tw2159818820702980009:=(0)
def tw9303775534102978922:=(0)
def tw7039250640712981994:=(0)
def tw3348588046250996394:=(0)
def tw9818143846841633546:=(0)
def tw9922485111956278026:=(0)
def tw12656509005820761259:=(0)
def tw6290920006778043723:=(0)
def tw1992156395037298283:=(0)
def tw11271304834414657195:=(0)
def tw6526697796338323179:=(0)
def tw4218393068392509772:=(0)
def tw15295450551736341932:=(0)
def tw3173563543505402444:=(0)
def tw16933430576406341484:=(0)
def tw7619471898260587372:=(0)
def tw7283250997616735212:=(0)
def tw8668581267330515917:=(0)
def tw10969033468748345678:=(0)
def tw2332129813264492302:=(0)
def tw7480754102306310062:=(0)
def tw9437660345372284878:=(0)
def tw12677455596733991375:=(0)
def tw5786482196937944623:=(0)
def tw10329185064582038864:=(0)
def tw1381842131378238384:=(0)
def tw6616810846119402097:=(0)
def tw9227884273844703889:=(0)
def tw205113579246808945:=(0)
def tw10212001459481726929:=(0)
def tw2946895563212693234:=(0)
def tw17884487261790970610:=(0)
def tw10641468963164640339:=(0)
def tw5717930349515790483:=(0)
def tw10096960752280555283:=(0)
def tw5893285339519509299:=(0)
def tw18157091041511826900:=(0)
def tw1768531836134763476:=(0)
def tw9493649920278661108:=(0)
def tw15091159341632915637:=(0)
def tw268236341121209781:=(0)
def tw16804887418643829237:=(0)
def tw14507076249643121205:=(0)
def tw10487801391921670773:=(0)
def tw9531907082789082901:=(0)
def tw12901207564285720469:=(0)
def tw11076080402165066038:=(0)
def tw8274660460442143062:=(0)
def tw7843158431162341814:=(0)
def tw1576034048634681846:=(0)
def tw15277202436093460054:=(0)
def tw4662151973958185590:=(0)
def tw8689635726645144406:=(0)
def tw3228475157292096951:=(0)
def tw13921149848522993111:=(0)
def tw13350136134028267063:=(0)
def tw16900119357885574743:=(0)
def tw10880787741269739608:=(0)
def tw3923375450164894968:=(0)
def tw10835466359527242104:=(0)
def tw16703286471578207192:=(0)
def tw4185132892168961273:=(0)
def tw10994046789949025529:=(0)
def tw6806140349498669658:=(0)
def tw3029427640043940539:=(0)
def tw15982639573696174011:=(0)
def tw5101980872078699580:=(0)
def tw1932988399893716220:=(0)
def tw11391338046733212124:=(0)
def tw6833576146575511164:=(0)
def tw7027002313247428444:=(0)
def tw1911318597503610876:=(0)
def tw3531932893491920125:=(0)
def tw2460521453742162557:=(0)
def tw14397296303059094237:=(0)
def tw14192981543182032669:=(0)
def tw10145737054455695293:=(0)
def tw8992262982846258814:=(0)
def tw9661371634223652670:=(0)
def tw14445872500041513823:=(0)
def tw16465610050413067135:=(0)
def tw5758101132447859711:=(0)
end PySem.W.Fast
end
open PySem PySem.W PyProof.Rows
set_option maxRecDepth 100000 in
set_option maxHeartbeats 0 in
theorem PySem.Challenge.cw_mowfloor_k36_whole_bars_and_ways_holds : PySem.Challenge.rw_mowfloor_k36_whole_bars_and_ways.Holds := by
  w_on; o_law; k_head; (case hw => w_witness2)
  k_fill
  refine' K36.walk (k := PySem.Challenge.rw_mowfloor_k36_whole_bars_and_ways) rfl rfl (fun w h Y => PySem.W.kIn_of Y) ?hK ?F
  case hK => intro p; rfl
  case F =>
    intro w mg fa h KX G hmg
    apply K36.all_mk KX G hmg
    iterate 34 (apply L2.DW; iterate 4 k_is)
    iterate 17 k_is
